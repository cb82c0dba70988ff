import PyProof.Rows.All
import Wide.All
import OpenK.AllK
import Wide.FinOn
import HandS.Base
import HandS.Call
import HandS.List
import HandS.Comp
import HandS.Ends
import HandS.Exc
import HandS.ExcOwn
import HandS.TryOnly
import HandS.ExcIs
import HandS.IsInst
import HandS.FStr
import HandS.RaiseMore
import HandS.Words
import HandS.WordsList
import HandS.WordsExc
import HandS.WideBits
import HandS.Iter
import HandS.Text
import HandS.Evl
import HandS.Head0
import HandS.Head1
import HandS.Head2
import HandS.HeadEnd
import HandS.HeadHook1
import HandS.HeadHook2
import HandS.HeadHook4
import HandS.EndBits
import HandS.Style
import KE.KSuper
import HandS.More
import HandS.Head3
import Wide.Once
import HandS.TryMany
import HandS.Rev
import HandS.RevTup
import PyProof.ListNew
import HandS.Defaults
import HandS.CallSlots
import HandS.MakeKwOnly
import KE.DatumOrd
import HandS.Conv
import HandS.Dict
import KE.KMathG
import HandS.Struct
import HandS.Zip
import KE.GoesMore
import KE.GoesRaise
import HandS.TupMul
import KE.KxField
import HandS.Replace
import PySem.Challenge.RW_curveseal_k01_digits_and_codes
set_option Elab.async false
set_option linter.all false
set_option maxRecDepth 100000
set_option autoImplicit false
set_option maxHeartbeats 4000000
set_option maxHeartbeats 1000000
namespace Mi
open PySem PySem.Spec L2
open Evl (Ex)

/-! ### data -/
inductive D where
  | non | bl (b : Bool) | int (i : Int) | str (s : Str) | ty (n : String)
  | tup (xs : List D) | lst (xs : List D) | obj (c : Str) (ks : List Str) (ds : List D) | ro (xs : List D) | dct (ks : List Str) (ds : List D)

class ToD (α : Type) where
  d : α → D
abbrev toD {α : Type} [ToD α] (x : α) : D := ToD.d x
instance : ToD D := ⟨fun x => x⟩
instance : ToD Int := ⟨D.int⟩
instance : ToD Bool := ⟨D.bl⟩
instance : ToD Unit := ⟨fun _ => .non⟩
instance : ToD Str := ⟨D.str⟩
instance {α : Type} [ToD α] : ToD (List α) := ⟨fun xs => .lst (xs.map ToD.d)⟩
instance {α : Type} [ToD α] : ToD (Option α) := ⟨fun o => match o with | none => .non | some x => ToD.d x⟩
structure T1 (α : Type) where
  a : α
structure T2 (α β : Type) where
  a : α
  b : β
structure T3 (α β γ : Type) where
  a : α
  b : β
  c : γ
structure T4 (α β γ δ : Type) where
  a : α
  b : β
  c : γ
  e : δ
structure Ro (α : Type) where
  xs : List α
structure Tu (α : Type) where
  xs : List α
instance {α : Type} [ToD α] : ToD (T1 α) := ⟨fun x => .tup [ToD.d x.a]⟩
instance {α β : Type} [ToD α] [ToD β] : ToD (T2 α β) := ⟨fun x => .tup [ToD.d x.a, ToD.d x.b]⟩
instance {α β γ : Type} [ToD α] [ToD β] [ToD γ] : ToD (T3 α β γ) := ⟨fun x => .tup [ToD.d x.a, ToD.d x.b, ToD.d x.c]⟩
instance {α β γ δ : Type} [ToD α] [ToD β] [ToD γ] [ToD δ] : ToD (T4 α β γ δ) := ⟨fun x => .tup [ToD.d x.a, ToD.d x.b, ToD.d x.c, ToD.d x.e]⟩
instance {α : Type} [ToD α] : ToD (Ro α) := ⟨fun x => .ro (x.xs.map ToD.d)⟩
instance {α : Type} [ToD α] : ToD (Tu α) := ⟨fun x => .tup (x.xs.map ToD.d)⟩

mutual
def Rep (K : PySem.W.Frag) (F : Hp) : D → V → Prop
  | .non, v => v = .non
  | .bl b, v => v = .bl b
  | .int i, v => v = .int i
  | .str s, v => v = .str s
  | .ty n, v => v = .ty n
  | .tup ds, v => ∃ a vs, v = .ref a ∧ SqT K F a vs ∧ Reps K F ds vs
  | .lst ds, v => ∃ a vs, v = .ref a ∧ F a = some (.lst vs) ∧ Reps K F ds vs
  | .obj c ks ds, v => ∃ a dx vs, v = .ref a ∧ F a = some (.ins (He.ga K c) dx (ks.zip vs)) ∧ ks.length = vs.length ∧ Reps K F ds vs
  | .ro ds, v => ∃ a vs, v = .ref a ∧ SqL K F a vs ∧ Reps K F ds vs
  | .dct ks ds, v => ∃ a vs, v = .ref a ∧ F a = some (.dK ((ks.map Sum.inr).zip vs)) ∧ ks.length = vs.length ∧ Reps K F ds vs ∧ ks.Nodup
def Reps (K : PySem.W.Frag) (F : Hp) : List D → List V → Prop
  | [], vs => vs = []
  | d :: ds, vs => ∃ v r, vs = v :: r ∧ Rep K F d v ∧ Reps K F ds r
end

theorem sq_ex {K : PySem.W.Frag} {F H : Hp} {a : Addr} {xs : List V} (e : Ex F H) (h : F a = some (.lst xs)) : SqL K H a xs := Or.inl (Or.inl (e _ _ h))
mutual
theorem Rep.mono {K : PySem.W.Frag} {F F' : Hp} (e : Ex F F') : ∀ (d : D) (v : V), Rep K F d v → Rep K F' d v
  | .non, v, h => h
  | .bl b, v, h => h
  | .int i, v, h => h
  | .str s, v, h => h
  | .ty n, v, h => h
  | .tup ds, v, h => by
    obtain ⟨a, vs, h1, h2, h3⟩ := h
    exact ⟨a, vs, h1, Evl.ex_t e h2, Reps.mono e ds vs h3⟩
  | .lst ds, v, h => by
    obtain ⟨a, vs, h1, h2, h3⟩ := h
    exact ⟨a, vs, h1, e _ _ h2, Reps.mono e ds vs h3⟩
  | .obj c ks ds, v, h => by
    obtain ⟨a, dx, vs, h1, h2, h3, h4⟩ := h
    exact ⟨a, dx, vs, h1, e _ _ h2, h3, Reps.mono e ds vs h4⟩
  | .ro ds, v, h => by
    obtain ⟨a, vs, h1, h2, h3⟩ := h
    exact ⟨a, vs, h1, Evl.ex_l e h2, Reps.mono e ds vs h3⟩
  | .dct ks ds, v, h => by
    obtain ⟨a, vs, h1, h2, h3, h4, h5⟩ := h
    exact ⟨a, vs, h1, e _ _ h2, h3, Reps.mono e ds vs h4, h5⟩
theorem Reps.mono {K : PySem.W.Frag} {F F' : Hp} (e : Ex F F') : ∀ (ds : List D) (vs : List V), Reps K F ds vs → Reps K F' ds vs
  | [], vs, h => h
  | d :: ds, vs, h => by
    obtain ⟨v, r, h1, h2, h3⟩ := h
    exact ⟨v, r, h1, Rep.mono e d v h2, Reps.mono e ds r h3⟩
end
section
variable {K : PySem.W.Frag} {F F' H H' H1 : Hp}
theorem Reps.length : ∀ {ds : List D} {vs : List V}, Reps K F ds vs → ds.length = vs.length
  | [], vs, h => by rw [show vs = [] from h]; rfl
  | d :: ds, vs, h => by
    obtain ⟨v, r, rfl, _, h3⟩ := h
    simp [Reps.length h3]
theorem Reps.get : ∀ {ds : List D} {vs : List V} {i : Nat} {e : D}, Reps K F ds vs → ds[i]? = some e → ∃ v, vs[i]? = some v ∧ Rep K F e v
  | [], vs, i, e, h, q => by simp at q
  | d :: ds, vs, 0, e, h, q => by
    obtain ⟨v, r, rfl, h2, h3⟩ := h
    simp at q; subst q
    exact ⟨v, rfl, h2⟩
  | d :: ds, vs, i + 1, e, h, q => by
    obtain ⟨v, r, rfl, h2, h3⟩ := h
    simp at q
    obtain ⟨w, a, b⟩ := Reps.get h3 q
    exact ⟨w, by simpa using a, b⟩
theorem Reps.append : ∀ {ds es : List D} {vs ws : List V}, Reps K F ds vs → Reps K F es ws → Reps K F (ds ++ es) (vs ++ ws)
  | [], es, vs, ws, h, q => by rw [show vs = [] from h]; exact q
  | d :: ds, es, vs, ws, h, q => by
    obtain ⟨v, r, rfl, h2, h3⟩ := h
    exact ⟨v, r ++ ws, rfl, h2, Reps.append h3 q⟩
theorem Reps.one {e : D} {v : V} (h : Rep K F e v) : Reps K F [e] [v] := ⟨v, [], rfl, h, rfl⟩
theorem Reps.set : ∀ {ds : List D} {vs : List V} (i : Nat) {e : D} {v : V}, Reps K F ds vs → Rep K F e v → Reps K F (ds.set i e) (vs.set i v)
  | [], vs, i, e, v, h, q => by rw [show vs = [] from h]; exact rfl
  | d :: ds, vs, 0, e, v, h, q => by
    obtain ⟨w, r, rfl, h2, h3⟩ := h
    exact ⟨v, r, rfl, q, h3⟩
  | d :: ds, vs, i + 1, e, v, h, q => by
    obtain ⟨w, r, rfl, h2, h3⟩ := h
    exact ⟨w, r.set i v, rfl, h2, Reps.set i h3 q⟩
theorem Reps.drop : ∀ {ds : List D} {vs : List V} (i : Nat), Reps K F ds vs → Reps K F (ds.drop i) (vs.drop i)
  | [], vs, i, h => by rw [show vs = [] from h]; simp [Reps]
  | d :: ds, vs, 0, h => h
  | d :: ds, vs, i + 1, h => by
    obtain ⟨w, r, rfl, h2, h3⟩ := h
    exact Reps.drop i h3
theorem Reps.take : ∀ {ds : List D} {vs : List V} (i : Nat), Reps K F ds vs → Reps K F (ds.take i) (vs.take i)
  | [], vs, i, h => by rw [show vs = [] from h]; simp [Reps]
  | d :: ds, vs, 0, h => by simp [Reps]
  | d :: ds, vs, i + 1, h => by
    obtain ⟨w, r, rfl, h2, h3⟩ := h
    exact ⟨w, r.take i, rfl, h2, Reps.take i h3⟩
theorem Reps.reverse : ∀ {ds : List D} {vs : List V}, Reps K F ds vs → Reps K F ds.reverse vs.reverse
  | [], vs, h => by rw [show vs = [] from h]; simp [Reps]
  | d :: ds, vs, h => by
    obtain ⟨w, r, rfl, h2, h3⟩ := h
    rw [List.reverse_cons, List.reverse_cons]
    exact Reps.append (Reps.reverse h3) (Reps.one h2)
theorem Reps.ints : ∀ {ns : List Int} {vs : List V}, Reps K F (ns.map D.int) vs → vs = ns.map V.int
  | [], vs, h => h
  | n :: ns, vs, h => by
    obtain ⟨w, r, rfl, h2, h3⟩ := h
    rw [show w = V.int n from h2, Reps.ints h3]; rfl
theorem Reps.of_ints : ∀ (ns : List Int), Reps K F (ns.map D.int) (ns.map V.int)
  | [] => rfl
  | n :: ns => ⟨_, _, rfl, rfl, Reps.of_ints ns⟩
theorem Reps.bls : ∀ {ns : List Bool} {vs : List V}, Reps K F (ns.map D.bl) vs → vs = ns.map V.bl
  | [], vs, h => h
  | n :: ns, vs, h => by
    obtain ⟨w, r, rfl, h2, h3⟩ := h
    rw [show w = V.bl n from h2, Reps.bls h3]; rfl
/-! ### how the heap goes on -/
structure Adv (F H F' H' : Hp) : Prop where
  f : Ex F F'
  h : Ex H H'
  in_ : Ex F' H'
  out : ∀ p, F p = none → H p ≠ none → F' p = none
theorem Adv.refl (e : Ex F H) : Adv F H F H := ⟨Ex.refl F, Ex.refl H, e, fun _ h _ => h⟩
theorem Adv.trans {F1 H1 F2 H2 F3 H3 : Hp} (a : Adv F1 H1 F2 H2) (b : Adv F2 H2 F3 H3) : Adv F1 H1 F3 H3 :=
  ⟨a.f.trans b.f, a.h.trans b.h, b.in_, fun p h1 h2 => b.out p (a.out p h1 h2) fun z => h2 (Evl.fresh_back a.h z)⟩
theorem none_of_ex (e : Ex F H) {p : Addr} (h : H p = none) : F p = none := Evl.fresh_back e h
theorem Adv.new {p : Addr} {o : HO} (e : Ex F H) (h : H p = none) : Adv F H (upd F p o) (upd H p o) := by
  refine ⟨Ex.new (none_of_ex e h), Ex.new h, fun a u q => ?_, fun q h1 h2 => ?_⟩
  · by_cases z : a = p
    · subst z; rw [upd_same] at q ⊢; exact q
    · rw [upd_ne z] at q ⊢; exact e a u q
  · have z : q ≠ p := fun z => h2 (by rw [z]; exact h)
    rw [upd_ne z]; exact h1
/-- a new object, not frozen -/
theorem Adv.newO {p : Addr} {o : HO} (e : Ex F H) (h : H p = none) : Adv F H F (upd H p o) :=
  ⟨Ex.refl F, Ex.new h, fun a u q => (Ex.new h) a u (e a u q), fun _ h1 _ => h1⟩
end

/-! ### what a def gives -/
inductive Res (α : Type) where
  | ok (x : α) | exc (c : Str) | stuck
namespace Res
def bind {α β : Type} : Res α → (α → Res β) → Res β
  | .ok x, f => f x
  | .exc c, _ => .exc c
  | .stuck, _ => .stuck
theorem bind_ok {α β : Type} (x : α) (f : α → Res β) : (Res.ok x).bind f = f x := rfl
theorem bind_pure {α : Type} (m : Res α) : m.bind Res.ok = m := by cases m <;> rfl
/-- a condition that must hold -/
@[irreducible] noncomputable def need {α : Type} (p : Prop) (m : Res α) : Res α := @ite _ p (Classical.propDecidable p) m .stuck
theorem need_pos {α : Type} {p : Prop} {m : Res α} (h : p) : need p m = m := by unfold need; exact if_pos h
theorem need_neg {α : Type} {p : Prop} {m : Res α} (h : ¬ p) : need p m = .stuck := by unfold need; exact if_neg h
def map {α β : Type} (f : α → β) (m : Res α) : Res β := m.bind fun x => .ok (f x)
end Res

/-! ### slots -/
inductive Sk where
  | im (e : D) | ow (xs : List D) | raw (v : V) | oi (p : Option Addr) (c : Str) (ks : List Str) (ds : List D)
/-- what only this frame knows -/
def Sk.own : Sk → Bool
  | .ow _ => true
  | .oi _ _ _ _ => true
  | _ => false
abbrev En := List (Option Sk)
def SkOk (K : PySem.W.Frag) (H0 F H : Hp) : Sk → V → Prop
  | .im e, v => Rep K F e v
  | .ow xs, v => ∃ p vs, v = .ref p ∧ H0 p = none ∧ F p = none ∧ H p = some (.lst vs) ∧ Reps K F xs vs
  | .raw w, v => v = w
  | .oi pp c ks ds, v => ∃ p dx vs, v = .ref p ∧ H0 p = none ∧ F p = none ∧ H p = some (.ins (He.ga K c) dx (ks.zip vs)) ∧ ks.length = vs.length ∧ Reps K F ds vs ∧ ∀ a, pp = some a → p = a
structure Sl (K : PySem.W.Frag) (F0 H0 F H : Hp) (σ : L2.St) (env : En) : Prop where
  adv : Adv F0 H0 F H
  slot : ∀ (i : Nat) (sk : Sk), env[i]? = some (some sk) → ∃ v, σ[i]? = some (some v) ∧ SkOk K H0 F H sk v
  dis : ∀ (i j : Nat) (sk sk' : Sk) (p : Addr), i ≠ j → env[i]? = some (some sk) → env[j]? = some (some sk') → sk.own = true → sk'.own = true → σ[i]? = some (some (.ref p)) → σ[j]? ≠ some (some (.ref p))
  len : σ.length = env.length
section
variable {K : PySem.W.Frag} {F0 H0 F H F' H' : Hp} {σ : L2.St} {env : En}
theorem Sl.ex (S : Sl K F0 H0 F H σ env) : Ex F H := S.adv.in_
theorem SkOk.adv {sk : Sk} {v : V} (a : Adv F H F' H') (h : SkOk K H0 F H sk v) : SkOk K H0 F' H' sk v := by
  cases sk with
  | im e => exact Rep.mono a.f _ _ h
  | ow xs =>
    obtain ⟨p, vs, e1, e2, e3, e4, e5⟩ := h
    exact ⟨p, vs, e1, e2, a.out p e3 (by rw [e4]; simp), a.h _ _ e4, Reps.mono a.f _ _ e5⟩
  | raw w => exact h
  | oi pp c ks ds =>
    obtain ⟨p, dx, vs, e1, e2, e3, e4, e5, e6, e7⟩ := h
    exact ⟨p, dx, vs, e1, e2, a.out p e3 (by rw [e4]; simp), a.h _ _ e4, e5, Reps.mono a.f _ _ e6, e7⟩
theorem SkOk.at {sk : Sk} {v : V} (ho : sk.own = true) (h : SkOk K H0 F H sk v) : ∃ p o, v = .ref p ∧ H0 p = none ∧ F p = none ∧ H p = some o := by
  cases sk with
  | im e => cases ho
  | raw w => cases ho
  | ow xs =>
    obtain ⟨p, vs, e1, e2, e3, e4, e5⟩ := h
    exact ⟨p, _, e1, e2, e3, e4⟩
  | oi pp c ks ds =>
    obtain ⟨p, dx, vs, e1, e2, e3, e4, e5, e6, e7⟩ := h
    exact ⟨p, _, e1, e2, e3, e4⟩
theorem SkOk.updH {sk : Sk} {v : V} {p : Addr} {o : HO} (hn : sk.own = true → v ≠ .ref p) (h : SkOk K H0 F H sk v) : SkOk K H0 F (upd H p o) sk v := by
  cases sk with
  | im e => exact h
  | raw w => exact h
  | ow xs =>
    obtain ⟨q, vs, e1, e2, e3, e4, e5⟩ := h
    have hne : q ≠ p := fun z => hn rfl (by rw [e1, z])
    exact ⟨q, vs, e1, e2, e3, by rw [upd_ne hne]; exact e4, e5⟩
  | oi pp c ks ds =>
    obtain ⟨q, dx, vs, e1, e2, e3, e4, e5, e6, e7⟩ := h
    have hne : q ≠ p := fun z => hn rfl (by rw [e1, z])
    exact ⟨q, dx, vs, e1, e2, e3, by rw [upd_ne hne]; exact e4, e5, e6, e7⟩
theorem SkOk.updF {sk : Sk} {v : V} {p : Addr} {o : HO} (hf : F p = none) (hn : sk.own = true → v ≠ .ref p) (h : SkOk K H0 F H sk v) : SkOk K H0 (upd F p o) H sk v := by
  have ad : Ex F (upd F p o) := Ex.new hf
  cases sk with
  | im e => exact Rep.mono ad _ _ h
  | raw w => exact h
  | ow xs =>
    obtain ⟨q, vs, e1, e2, e3, e4, e5⟩ := h
    have hne : q ≠ p := fun z => hn rfl (by rw [e1, z])
    exact ⟨q, vs, e1, e2, by rw [upd_ne hne]; exact e3, e4, Reps.mono ad _ _ e5⟩
  | oi pp c ks ds =>
    obtain ⟨q, dx, vs, e1, e2, e3, e4, e5, e6, e7⟩ := h
    have hne : q ≠ p := fun z => hn rfl (by rw [e1, z])
    exact ⟨q, dx, vs, e1, e2, by rw [upd_ne hne]; exact e3, e4, e5, Reps.mono ad _ _ e6, e7⟩
theorem Sl.step (S : Sl K F0 H0 F H σ env) (a : Adv F H F' H') : Sl K F0 H0 F' H' σ env := by
  refine ⟨S.adv.trans a, fun i sk e => ?_, S.dis, S.len⟩
  obtain ⟨v, h1, h2⟩ := S.slot i sk e
  exact ⟨v, h1, h2.adv a⟩
theorem set_get {α : Type} {l : List α} {i j : Nat} {x y : α} (h : (l.set i x)[j]? = some y) : (i = j ∧ x = y) ∨ (i ≠ j ∧ l[j]? = some y) := by
  rw [List.getElem?_set] at h
  by_cases e : i = j
  · rw [if_pos e] at h
    split at h
    · exact .inl ⟨e, Option.some.inj h⟩
    · cases h
  · rw [if_neg e] at h
    exact .inr ⟨e, h⟩
theorem set_len {α : Type} {l : List α} {i : Nat} {x y : α} (h : (l.set i x)[i]? = some y) : i < l.length := by
  have h := (List.getElem?_eq_some_iff.mp h).1
  rwa [List.length_set] at h
theorem Sl.setIm (S : Sl K F0 H0 F H σ env) {i : Nat} {e : D} {v : V} (r : Rep K F e v) : Sl K F0 H0 F H (σ.set i (some v)) (env.set i (some (.im e))) := by
  refine ⟨S.adv, fun j sk q => ?_, fun j k sk sk' p hjk e1 e2 o1 o2 h1 => ?_, by rw [List.length_set, List.length_set]; exact S.len⟩
  · rcases set_get q with ⟨rfl, z⟩ | ⟨z, q⟩
    · cases z
      refine ⟨v, ?_, r⟩
      have hi : i < env.length := set_len q
      rw [List.getElem?_set_self (by rw [S.len]; exact hi)]
    · obtain ⟨w, h1, h2⟩ := S.slot j sk q
      exact ⟨w, by rw [List.getElem?_set_ne z]; exact h1, h2⟩
  · rcases set_get e1 with ⟨_, z⟩ | ⟨z1, e1⟩
    · cases z; cases o1
    rcases set_get e2 with ⟨_, z⟩ | ⟨z2, e2⟩
    · cases z; cases o2
    rw [List.getElem?_set_ne z1] at h1
    rw [List.getElem?_set_ne z2]
    exact S.dis j k sk sk' p hjk e1 e2 o1 o2 h1
/-- a new owned object -/
theorem Sl.setOwn (S : Sl K F0 H0 F H σ env) {i : Nat} {p : Addr} {sk : Sk} (hs : SkOk K H0 F H sk (.ref p)) (hn : ∀ (j : Nat) (sk' : Sk), env[j]? = some (some sk') → sk'.own = true → σ[j]? ≠ some (some (V.ref p))) :
    Sl K F0 H0 F H (σ.set i (some (.ref p))) (env.set i (some sk)) := by
  refine ⟨S.adv, fun j sk q => ?_, fun j k sk1 sk2 p' hjk e1 e2 o1 o2 h1 => ?_, by rw [List.length_set, List.length_set]; exact S.len⟩
  · rcases set_get q with ⟨rfl, z⟩ | ⟨z, q⟩
    · cases z
      refine ⟨_, ?_, hs⟩
      have hi : i < env.length := set_len q
      rw [List.getElem?_set_self (by rw [S.len]; exact hi)]
    · obtain ⟨w, h1, h2⟩ := S.slot j sk q
      exact ⟨w, by rw [List.getElem?_set_ne z]; exact h1, h2⟩
  · rcases set_get e1 with ⟨z0, z⟩ | ⟨z1, e1⟩
    · rcases set_get e2 with ⟨z2, _⟩ | ⟨z2, e2⟩
      · exact absurd (z0.symm.trans z2) hjk
      · subst z0
        rw [List.getElem?_set_ne z2]
        have hi : i < σ.length := set_len h1
        rw [List.getElem?_set_self hi] at h1
        cases h1
        exact hn k sk2 e2 o2
    · rw [List.getElem?_set_ne z1] at h1
      rcases set_get e2 with ⟨z2, z⟩ | ⟨z2, e2⟩
      · subst z2
        intro q
        have hi : i < σ.length := set_len q
        rw [List.getElem?_set_self hi] at q
        cases q
        exact hn j sk1 e1 o1 h1
      · rw [List.getElem?_set_ne z2]
        exact S.dis j k sk1 sk2 p' hjk e1 e2 o1 o2 h1
theorem Sl.setOw (S : Sl K F0 H0 F H σ env) {i : Nat} {p : Addr} {xs : List D} {vs : List V} (h0 : H0 p = none) (hf : F p = none) (hp : H p = some (.lst vs)) (hn : ∀ (j : Nat) (sk' : Sk), env[j]? = some (some sk') → sk'.own = true → σ[j]? ≠ some (some (V.ref p))) (r : Reps K F xs vs) :
    Sl K F0 H0 F H (σ.set i (some (.ref p))) (env.set i (some (.ow xs))) := S.setOwn ⟨p, vs, rfl, h0, hf, hp, r⟩ hn
/-- an owned object changes -/
theorem Sl.chgO (S : Sl K F0 H0 F H σ env) {i : Nat} {p : Addr} {sk sk' : Sk} {o : HO} (e : env[i]? = some (some sk)) (ho : sk.own = true) (hs : σ[i]? = some (some (.ref p))) (hp : F p = none) (h0 : H0 p = none) (hk : SkOk K H0 F (upd H p o) sk' (.ref p)) :
    Sl K F0 H0 F (upd H p o) σ (env.set i (some sk')) := by
  refine ⟨⟨S.adv.f, fun a u q => ?_, fun a u q => ?_, S.adv.out⟩, fun j sk q => ?_, fun j k sk1 sk2 p' hjk e1 e2 o1 o2 h1 => ?_, by rw [List.length_set]; exact S.len⟩
  · rw [upd_ne (ne_of_none q h0)]; exact S.adv.h a u q
  · rw [upd_ne (ne_of_none q hp)]; exact S.adv.in_ a u q
  · rcases set_get q with ⟨rfl, z⟩ | ⟨z, q⟩
    · cases z
      exact ⟨_, hs, hk⟩
    · obtain ⟨w, h1, h2⟩ := S.slot j sk q
      exact ⟨w, h1, h2.updH fun o2 zz => S.dis i j _ _ p z e q ho o2 hs (by rw [h1, zz])⟩
  · have own : ∀ {j : Nat} {s : Sk}, (env.set i (some sk'))[j]? = some (some s) → s.own = true → ∃ s', env[j]? = some (some s') ∧ s'.own = true := by
      intro j s q o
      rcases set_get q with ⟨rfl, _⟩ | ⟨_, q⟩
      · exact ⟨_, e, ho⟩
      · exact ⟨_, q, o⟩
    obtain ⟨_, q1, r1⟩ := own e1 o1
    obtain ⟨_, q2, r2⟩ := own e2 o2
    exact S.dis j k _ _ p' hjk q1 q2 r1 r2 h1
theorem Sl.chg (S : Sl K F0 H0 F H σ env) {i : Nat} {p : Addr} {xs ys : List D} {ws : List V} (e : env[i]? = some (some (.ow xs))) (hs : σ[i]? = some (some (.ref p))) (hp : F p = none) (h0 : H0 p = none) (r : Reps K F ys ws) :
    Sl K F0 H0 F (upd H p (.lst ws)) σ (env.set i (some (.ow ys))) := S.chgO e rfl hs hp h0 ⟨p, ws, rfl, h0, hp, upd_same, r⟩
/-- an owned object is frozen -/
theorem Sl.freezeO (S : Sl K F0 H0 F H σ env) {i : Nat} {sk : Sk} {d : D} (e : env[i]? = some (some sk)) (ho : sk.own = true) (hd : ∀ p o, SkOk K H0 F H sk (.ref p) → H p = some o → F p = none → Rep K (upd F p o) d (.ref p)) : ∃ F', Ex F F' ∧ Sl K F0 H0 F' H σ (env.set i (some (.im d))) := by
  obtain ⟨v, hs, hk⟩ := S.slot i _ e
  obtain ⟨p, o, rfl, h0, hf, hp⟩ := hk.at ho
  have ad : Ex F (upd F p o) := Ex.new hf
  have inn : Ex (upd F p o) H := fun a u q => by
    by_cases z : a = p
    · subst z; rw [upd_same] at q; cases q; exact hp
    · rw [upd_ne z] at q; exact S.ex a u q
  refine ⟨upd F p o, ad, ⟨⟨S.adv.f.trans ad, S.adv.h, inn, fun a h1 h2 => ?_⟩, fun j sk q => ?_, fun j k sk1 sk2 p' hjk e1 e2 o1 o2 h1 => ?_, by rw [List.length_set]; exact S.len⟩⟩
  · have z : a ≠ p := fun z => h2 (by rw [z]; exact h0)
    rw [upd_ne z]; exact S.adv.out a h1 h2
  · rcases set_get q with ⟨rfl, z⟩ | ⟨z, q⟩
    · cases z
      exact ⟨_, hs, hd p o hk hp hf⟩
    · obtain ⟨w, h1, h2⟩ := S.slot j sk q
      exact ⟨w, h1, h2.updF hf fun o2 zz => S.dis i j _ _ p z e q ho o2 hs (by rw [h1, zz])⟩
  · have own : ∀ {j : Nat} {s : Sk}, (env.set i (some (.im d)))[j]? = some (some s) → s.own = true → env[j]? = some (some s) := by
      intro j s q o
      rcases set_get q with ⟨rfl, z⟩ | ⟨_, q⟩
      · cases z; cases o
      · exact q
    exact S.dis j k _ _ p' hjk (own e1 o1) (own e2 o2) o1 o2 h1
theorem Sl.freeze (S : Sl K F0 H0 F H σ env) {i : Nat} {xs : List D} (e : env[i]? = some (some (.ow xs))) : ∃ F', Ex F F' ∧ Sl K F0 H0 F' H σ (env.set i (some (.im (.lst xs)))) :=
  S.freezeO e rfl fun p o h hp hf => by
    obtain ⟨q, vs, e1, _, _, e4, e5⟩ := h
    cases e1
    rw [hp] at e4; cases e4
    exact ⟨_, vs, rfl, upd_same, Reps.mono (Ex.new hf) _ _ e5⟩
end
end Mi
set_option maxHeartbeats 1000000
namespace Mi
open PySem PySem.Spec L2
open Evl (Ex)

class ToDs (β : Type) where
  ds : β → List D
instance : ToDs Unit := ⟨fun _ => []⟩
instance {α β : Type} [ToD α] [ToDs β] : ToDs (α × β) := ⟨fun p => ToD.d p.1 :: ToDs.ds p.2⟩

/-! ### what follows a value -/
section
variable (K : PySem.W.Frag) (W : WX) (F H : Hp) (σ : L2.St)
def KE {α : Type} [ToD α] (Q : VK) : Res α → Prop
  | .ok x => ∀ v F' H', Adv F H F' H' → Rep K F' (toD x) v → Q v H'
  | .exc c => ∀ F' H', Adv F H F' H' → W (.ref (He.ga K c)) none σ H'
  | .stuck => False
def KA {β : Type} [ToDs β] (Q : List V → Hp → Prop) : Res β → Prop
  | .ok x => ∀ vs F' H', Adv F H F' H' → Reps K F' (ToDs.ds x) vs → Q vs H'
  | .exc c => ∀ F' H', Adv F H F' H' → W (.ref (He.ga K c)) none σ H'
  | .stuck => False
def KT (Q : Bool → Hp → Prop) : Res Bool → Prop
  | .ok b => ∀ F' H', Adv F H F' H' → Q b H'
  | .exc c => ∀ F' H', Adv F H F' H' → W (.ref (He.ga K c)) none σ H'
  | .stuck => False
def KN {α : Type} [ToD α] (Q : VK) : Res (List α) → Prop
  | .ok xs => ∀ p vs F' H', Adv F H F' H' → H p = none → F' p = none → H' p = some (.lst vs) → Reps K F' (xs.map toD) vs → Q (.ref p) H'
  | .exc c => ∀ F' H', Adv F H F' H' → W (.ref (He.ga K c)) none σ H'
  | .stuck => False
end
def EvX (K : PySem.W.Frag) (W : WX) (env : En) (te : TE) {α : Type} [ToD α] (m : Res α) : Prop :=
  ∀ F0 H0 F H σ Q, Sl K F0 H0 F H σ env → KE K W F H σ Q m → te σ H Q
def EvA (K : PySem.W.Frag) (W : WX) (env : En) (ta : TA) {β : Type} [ToDs β] (m : Res β) : Prop :=
  ∀ F0 H0 F H σ Q, Sl K F0 H0 F H σ env → KA K W F H σ Q m → ta σ H Q
def EvT (K : PySem.W.Frag) (W : WX) (env : En) (tt : TT) (m : Res Bool) : Prop :=
  ∀ F0 H0 F H σ Q, Sl K F0 H0 F H σ env → KT K W F H σ Q m → tt σ H Q
def EvN (K : PySem.W.Frag) (W : WX) (env : En) (te : TE) {α : Type} [ToD α] (m : Res (List α)) : Prop :=
  ∀ F0 H0 F H σ Q, Sl K F0 H0 F H σ env → KN K W F H σ Q m → te σ H Q

section
variable {K : PySem.W.Frag} {W : WX} {F H F' H' : Hp} {σ : L2.St} {env : En} {α β γ τ : Type} [ToD α] [ToD β] [ToD γ] [ToD τ] {ta tb te tc : TE} {tt tu : TT} {r : R2}

/-- from what follows a whole to what follows its first part -/
theorem KE.cut {Q : VK} {Q1 : VK} {m : Res α} {f : α → Res β} (ex : Ex F H) (h : KE K W F H σ Q (m.bind f))
    (k : ∀ x v F' H', m = .ok x → Adv F H F' H' → Rep K F' (toD x) v → KE K W F' H' σ Q (f x) → Q1 v H') : KE K W F H σ Q1 m := by
  cases m with
  | ok x =>
    intro v F1 H1 a r
    refine k x v F1 H1 rfl a r ?_
    have h : KE K W F H σ Q (f x) := h
    revert h
    generalize f x = y
    intro h
    cases y with
    | ok y => exact fun v F2 H2 b q => h v F2 H2 (a.trans b) q
    | exc c => exact fun F2 H2 b => h F2 H2 (a.trans b)
    | stuck => exact h.elim
  | exc c => exact h
  | stuck => exact h.elim
theorem KE.adv {Q : VK} {m : Res β} (a : Adv F H F' H') (h : KE K W F H σ Q m) : KE K W F' H' σ Q m := by
  cases m with
  | ok y => exact fun v F2 H2 b q => h v F2 H2 (a.trans b) q
  | exc c => exact fun F2 H2 b => h F2 H2 (a.trans b)
  | stuck => exact h.elim
theorem KT.adv {Q : Bool → Hp → Prop} {m : Res Bool} (a : Adv F H F' H') (h : KT K W F H σ Q m) : KT K W F' H' σ Q m := by
  cases m with
  | ok y => exact fun F2 H2 b => h F2 H2 (a.trans b)
  | exc c => exact fun F2 H2 b => h F2 H2 (a.trans b)
  | stuck => exact h.elim
theorem KA.adv {δ : Type} [ToDs δ] {Q : List V → Hp → Prop} {m : Res δ} (a : Adv F H F' H') (h : KA K W F H σ Q m) : KA K W F' H' σ Q m := by
  cases m with
  | ok y => exact fun v F2 H2 b q => h v F2 H2 (a.trans b) q
  | exc c => exact fun F2 H2 b => h F2 H2 (a.trans b)
  | stuck => exact h.elim

/-- general: te then a use of its value -/
theorem use {Q Q1 : VK} {m : Res α} {F0 H0 : Hp} (hv : EvX K W env te m) (S : Sl K F0 H0 F H σ env)
    (hx : ∀ c, m = .exc c → ∀ F' H', Adv F H F' H' → W (.ref (He.ga K c)) none σ H') (hs : m ≠ .stuck)
    (k : ∀ x v F' H', m = .ok x → Adv F H F' H' → Rep K F' (toD x) v → Q1 v H') : te σ H Q1 := by
  refine hv F0 H0 F H σ Q1 S ?_
  cases m with
  | ok x => exact fun v F' H' a q => k x v F' H' rfl a q
  | exc c => exact hx c rfl
  | stuck => exact hs rfl

/-! ### names and constants -/
theorem ev_var {i : Nat} {x : α} (h : env[i]? = some (some (.im (toD x)))) : EvX K W env (tVar i) (.ok x) := fun F0 H0 F H σ Q S k => by
  obtain ⟨v, e, q⟩ := S.slot i _ h
  exact ⟨v, e, k v F H (Adv.refl S.ex) q⟩
theorem ev_int {i : Int} : EvX K W env (tC (.int i)) (.ok i) := fun F0 H0 F H σ Q S k => k _ F H (Adv.refl S.ex) rfl
theorem ev_bl {b : Bool} : EvX K W env (tC (.bl b)) (.ok b) := fun F0 H0 F H σ Q S k => k _ F H (Adv.refl S.ex) rfl
theorem ev_str {x : Str} : EvX K W env (tC (.str x)) (.ok x) := fun F0 H0 F H σ Q S k => k _ F H (Adv.refl S.ex) rfl
theorem ev_non : EvX K W env (tC .non) (.ok ()) := fun F0 H0 F H σ Q S k => k _ F H (Adv.refl S.ex) rfl
/-- the same value in another type -/
theorem ev_as {m : Res α} {m' : Res β} (h : EvX K W env te m) (f : α → β) (e : ∀ x, toD (f x) = toD x) (em : m.bind (fun x => .ok (f x)) = m') : EvX K W env te m' := fun F0 H0 F H σ Q S k => by
  refine h F0 H0 F H σ Q S ?_
  subst em
  cases m with
  | ok x => intro v F' H' a q; exact k v F' H' a (by rw [e]; exact q)
  | exc c => exact k
  | stuck => exact k.elim

/-! ### operators -/
def OpX (K : PySem.W.Frag) (r : R2) (f : α → β → Res γ) : Prop := ∀ (F H : Hp) (x : α) (y : β) (v u : V) (Q : VK), Ex F H → Rep K F (toD x) v → Rep K F (toD y) u →
  KE K (fun _ _ _ _ => False) F H [] Q (f x y) → r v u H Q
/-- operators let nothing out -/
def Mild (f : α → β → Res γ) : Prop := ∀ x y c, f x y ≠ .exc c
theorem KE.mild {Q : VK} {m : Res γ} (hm : ∀ c, m ≠ .exc c) (h : KE K W F H σ Q m) : KE K (fun _ _ _ _ => False) F H [] Q m := by
  cases m with
  | ok x => exact h
  | exc c => exact absurd rfl (hm c)
  | stuck => exact h.elim
theorem ev_op {m1 : Res α} {m2 : Res β} {f : α → β → Res γ} (ho : OpX K r f) (hm : Mild f) (ha : EvX K W env ta m1) (hb : EvX K W env tb m2) :
    EvX K W env (tOp r ta tb) (m1.bind fun x => m2.bind fun y => f x y) := fun F0 H0 F H σ Q S k => by
  refine ha F0 H0 F H σ _ S (KE.cut S.ex k fun x v F1 H1 e1 a1 r1 k1 => ?_)
  refine hb F0 H0 F1 H1 σ _ (S.step a1) (KE.cut a1.in_ k1 fun y u F2 H2 e2 a2 r2 k2 => ?_)
  exact ho F2 H2 x y v u Q a2.in_ (Rep.mono a2.f _ _ r1) r2 (k2.mild (hm x y))
theorem mild_ok {g : α → β → γ} : Mild (fun x y => Res.ok (g x y)) := fun _ _ _ h => nomatch h
theorem mild_need {p : α → β → Prop} {g : α → β → γ} : Mild (fun x y => Res.need (p x y) (.ok (g x y))) := fun x y c h => by
  by_cases q : p x y
  · have h : Res.need (p x y) (.ok (g x y)) = .exc c := h
    rw [Res.need_pos q] at h; cases h
  · have h : Res.need (p x y) (.ok (g x y)) = .exc c := h
    rw [Res.need_neg q] at h; cases h
theorem opx_I0 {g : Int → Int → Int} : OpX K (rI0 fun i j => .int (g i j)) (fun i j => .ok (g i j)) := fun F H x y v u Q e h1 h2 k =>
  ⟨x, y, h1, h2, k _ F H (Adv.refl e) rfl⟩
theorem opx_B0 {g : Int → Int → Bool} : OpX K (rI0 fun i j => .bl (g i j)) (fun i j => .ok (g i j)) := fun F H x y v u Q e h1 h2 k =>
  ⟨x, y, h1, h2, k _ F H (Adv.refl e) rfl⟩
theorem opx_I {C : Int → Int → Prop} {g : Int → Int → Int} : OpX K (rI C fun i j => .int (g i j)) (fun i j => .need (C i j) (.ok (g i j))) := fun F H x y v u Q e h1 h2 k => by
  by_cases c : C x y
  · have k : KE K (fun _ _ _ _ => False) F H [] Q (Res.need (C x y) (.ok (g x y))) := k
    rw [Res.need_pos c] at k
    exact ⟨x, y, h1, h2, c, k _ F H (Adv.refl e) rfl⟩
  · have k : KE K (fun _ _ _ _ => False) F H [] Q (Res.need (C x y) (.ok (g x y))) := k
    rw [Res.need_neg c] at k
    exact k.elim
/-- the same where the condition is known -/
theorem ev_opI {m1 m2 : Res Int} {C : Int → Int → Prop} {g : Int → Int → Int} (hc : ∀ x y, m1 = .ok x → m2 = .ok y → C x y) (ha : EvX K W env ta m1) (hb : EvX K W env tb m2) :
    EvX K W env (tOp (rI C fun i j => .int (g i j)) ta tb) (m1.bind fun x => m2.bind fun y => .ok (g x y)) := fun F0 H0 F H σ Q S k => by
  refine ha F0 H0 F H σ _ S (KE.cut S.ex k fun x v F1 H1 e1 a1 r1 k1 => ?_)
  refine hb F0 H0 F1 H1 σ _ (S.step a1) (KE.cut a1.in_ k1 fun y u F2 H2 e2 a2 r2 k2 => ?_)
  exact ⟨x, y, r1, r2, hc x y e1 e2, k2 _ F2 H2 (Adv.refl a2.in_) rfl⟩
theorem ev_un {m1 : Res Int} {g : Int → Int} (ha : EvX K W env ta m1) : EvX K W env (tUn (rU fun i => .int (g i)) ta) (m1.bind fun x => .ok (g x)) := fun F0 H0 F H σ Q S k => by
  refine ha F0 H0 F H σ _ S (KE.cut S.ex k fun x v F1 H1 e1 a1 r1 k1 => ?_)
  exact ⟨x, r1, k1 _ F1 H1 (Adv.refl a1.in_) rfl⟩
/-- == of two ints, two bools, two texts -/
theorem opx_eqI : OpX K rEq (fun (i j : Int) => .ok (decide (i = j))) := fun F H x y v u Q e h1 h2 k => by
  cases (show v = V.int x from h1); cases (show u = V.int y from h2)
  refine ⟨rfl, ?_⟩
  rw [show decide (V.int x = V.int y) = decide (x = y) by rw [dec_int]; rfl]
  exact k _ F H (Adv.refl e) rfl
theorem opx_neS : OpX K rNe (fun (i j : Str) => .ok (!(i == j))) := fun F H x y v u Q e h1 h2 k => by
  cases (show v = V.str x from h1); cases (show u = V.str y from h2)
  refine ⟨rfl, ?_⟩
  rw [dec_str]
  exact k _ F H (Adv.refl e) rfl
def D.isNon : D → Bool
  | .non => true
  | _ => false
/-! ### == of data -/
mutual
def D.py : D → PyData
  | .non => .none
  | .bl b => .bool b
  | .int i => .int i
  | .str s => .str s
  | .ty _ => .none
  | .tup xs => .tuple (pyL xs)
  | .lst xs => .list (pyL xs)
  | .obj _ _ _ => .none
  | .ro _ => .none
  | .dct _ _ => .none
def pyL : List D → List PyData
  | [] => []
  | x :: xs => D.py x :: pyL xs
end
mutual
/-- no objects, no classes within -/
def D.flat : D → Bool
  | .ty _ => false
  | .obj _ _ _ => false
  | .ro _ => false
  | .dct _ _ => false
  | .tup xs => flatL xs
  | .lst xs => flatL xs
  | _ => true
def flatL : List D → Bool
  | [] => true
  | x :: xs => D.flat x && flatL xs
end
mutual
theorem dp_of : ∀ {x : D} {v : V}, Rep K F x v → x.flat = true → Dp K F v x.py
  | .non, v, h, _ => by rw [show v = V.non from h]; exact .non
  | .bl b, v, h, _ => by rw [show v = V.bl b from h]; exact .bl b
  | .int b, v, h, _ => by rw [show v = V.int b from h]; exact .int b
  | .str b, v, h, _ => by rw [show v = V.str b from h]; exact .str b
  | .ty b, v, h, q => by cases q
  | .tup ds, v, h, q => by obtain ⟨a, vs, rfl, h2, h3⟩ := h; exact .tup h2 (dps_of h3 q)
  | .lst ds, v, h, q => by obtain ⟨a, vs, rfl, h2, h3⟩ := h; exact .lst (Evl.sq_of h2) (dps_of h3 q)
  | .obj c ks ds, v, h, q => by cases q
  | .ro ds, v, h, q => by cases q
  | .dct ks ds, v, h, q => by cases q
theorem dps_of : ∀ {xs : List D} {vs : List V}, Reps K F xs vs → flatL xs = true → DpAll K F vs (pyL xs)
  | [], vs, h, _ => by rw [show vs = [] from h]; exact .nil
  | x :: xs, vs, h, q => by
    obtain ⟨v, r, rfl, h2, h3⟩ := h
    have q2 := Bool.and_eq_true_iff.mp (show (D.flat x && flatL xs) = true from q)
    exact .cons (dp_of h2 q2.1) (dps_of h3 q2.2)
end
mutual
theorem Dp.mono {e : Ex F F'} : ∀ {v : V} {x : PyData}, Dp K F v x → Dp K F' v x
  | _, _, .non => .non
  | _, _, .bl b => .bl b
  | _, _, .int b => .int b
  | _, _, .str b => .str b
  | _, _, .lst h1 h2 => .lst (Evl.ex_l e h1) (Dps.mono (e := e) h2)
  | _, _, .tup h1 h2 => .tup (Evl.ex_t e h1) (Dps.mono (e := e) h2)
theorem Dps.mono {e : Ex F F'} : ∀ {v : List V} {x : List PyData}, DpAll K F v x → DpAll K F' v x
  | _, _, .nil => .nil
  | _, _, .cons h1 h2 => .cons (Dp.mono (e := e) h1) (Dps.mono (e := e) h2)
end
/-- data that == may be asked of -/
def D.okq (x : D) : Bool := x.flat && SeqAt.shaped x.py
def pyEq (x y : D) : Bool := PyData.eqv x.py y.py
theorem opx_neD : OpX K (rNeD K) (fun (x : α) (y : β) => .need ((toD x).okq = true ∧ (toD y).okq = true) (.ok (!pyEq (toD x) (toD y)))) := fun F H x y v u Q e h1 h2 k => by
  dsimp only at k
  by_cases c : (toD x).okq = true ∧ (toD y).okq = true
  · rw [Res.need_pos c] at k
    obtain ⟨c1, c2⟩ := c
    obtain ⟨a1, a2⟩ := Bool.and_eq_true_iff.mp c1
    obtain ⟨b1, b2⟩ := Bool.and_eq_true_iff.mp c2
    exact ⟨_, _, Dp.mono (e := e) (dp_of h1 a1), Dp.mono (e := e) (dp_of h2 b1), a2, b2, k _ F H (Adv.refl e) rfl⟩
  · rw [Res.need_neg c] at k
    exact k.elim

/-! ### an item -/
def idx {α : Type} (xs : List α) (i : Int) : Res α := match atI xs i with
  | some x => .ok x
  | none => .stuck
theorem idx_mild {α : Type} (xs : List α) (i : Int) (c : Str) : idx xs i ≠ .exc c := by
  unfold idx; split <;> intro h <;> cases h
theorem atI_map {α β : Type} (f : α → β) (xs : List α) (i : Int) : atI (xs.map f) i = (atI xs i).map f := by
  unfold atI
  rw [List.length_map]
  cases ixN xs.length i with
  | none => rfl
  | some j => simp
theorem Reps.at {xs : List D} {vs : List V} {i : Int} {x : D} (h : Reps K F xs vs) (e : atI xs i = some x) : ∃ v, atI vs i = some v ∧ Rep K F x v := by
  unfold atI at e ⊢
  rw [← h.length]
  cases q : ixN xs.length i with
  | none => rw [q] at e; cases e
  | some j => rw [q] at e; exact Reps.get h e
theorem opx_ixL : OpX K (rIxL K) (fun (xs : List α) (i : Int) => idx xs i) := fun F H xs i v u Q e h1 h2 k => by
  obtain ⟨a, vs, rfl, hl, hr⟩ := h1
  cases (show u = V.int i from h2)
  dsimp only [idx] at k
  cases q : atI xs i with
  | none => rw [q] at k; exact k.elim
  | some x =>
    rw [q] at k
    obtain ⟨w, hw, rw_⟩ := Reps.at (i := i) hr (x := toD x) (by rw [atI_map, q]; rfl)
    exact ⟨a, vs, i, w, rfl, rfl, sq_ex e hl, hw, k _ F H (Adv.refl e) rw_⟩
/-! ### tests, and, or, not -/
theorem et_test {m : Res Bool} (ha : EvX K W env te m) : EvT K W env (tTest te) m := fun F0 H0 F H σ Q S k => by
  refine ha F0 H0 F H σ _ S ?_
  cases m with
  | ok b => exact fun v F' H' a q => ⟨b, q, k F' H' a⟩
  | exc c => exact k
  | stuck => exact k.elim
theorem et_B {m : Res Bool} (ha : EvX K W env te m) : EvT K W env (tB te) m := et_test ha
theorem et_not {m : Res Bool} (ha : EvT K W env tt m) : EvT K W env (tNot tt) (m.bind fun b => .ok (!b)) := fun F0 H0 F H σ Q S k => by
  refine ha F0 H0 F H σ _ S ?_
  cases m with
  | ok b => exact k
  | exc c => exact k
  | stuck => exact k.elim
theorem et_and {m1 m2 : Res Bool} (ha : EvT K W env tt m1) (hb : EvT K W env tu m2) : EvT K W env (tAnd tt tu) (m1.bind fun b => cond b m2 (.ok false)) := fun F0 H0 F H σ Q S k => by
  refine ha F0 H0 F H σ _ S ?_
  cases m1 with
  | ok b =>
    intro F' H' a
    cases b with
    | true =>
      have k : KT K W F H σ Q m2 := k
      show tu σ H' Q
      exact hb F0 H0 F' H' σ Q (S.step a) (k.adv a)
    | false => exact k F' H' a
  | exc c => exact k
  | stuck => exact k.elim
theorem et_or {m1 m2 : Res Bool} (ha : EvT K W env tt m1) (hb : EvT K W env tu m2) : EvT K W env (tOr tt tu) (m1.bind fun b => cond b (.ok true) m2) := fun F0 H0 F H σ Q S k => by
  refine ha F0 H0 F H σ _ S ?_
  cases m1 with
  | ok b =>
    intro F' H' a
    cases b with
    | false =>
      have k : KT K W F H σ Q m2 := k
      show tu σ H' Q
      exact hb F0 H0 F' H' σ Q (S.step a) (k.adv a)
    | true => exact k F' H' a
  | exc c => exact k
  | stuck => exact k.elim
theorem ev_andV {m1 m2 : Res Bool} (ha : EvX K W env ta m1) (hb : EvX K W env tb m2) : EvX K W env (tAndV ta tb) (m1.bind fun b => cond b m2 (.ok false)) := fun F0 H0 F H σ Q S k => by
  refine ha F0 H0 F H σ _ S ?_
  cases m1 with
  | ok b =>
    intro v F' H' a r
    refine ⟨b, r, ?_⟩
    cases b with
    | true =>
      have k : KE K W F H σ Q m2 := k
      exact hb F0 H0 F' H' σ Q (S.step a) (k.adv a)
    | false => exact k _ F' H' a rfl
  | exc c => exact k
  | stuck => exact k.elim
theorem ev_notV {m : Res Bool} (ha : EvX K W env ta m) : EvX K W env (tNotV ta) (m.bind fun b => .ok (!b)) := fun F0 H0 F H σ Q S k => by
  refine ha F0 H0 F H σ _ S ?_
  cases m with
  | ok b => exact fun v F' H' a r => ⟨b, r, k _ F' H' a rfl⟩
  | exc c => exact k
  | stuck => exact k.elim
/-- a < b < c -/
theorem ev_chain {m1 : Res α} {m2 : Res β} {m3 : Res γ} {r' : R2} {f : α → β → Res Bool} {g : β → γ → Res Bool} (ho : OpX K r f) (hf : Mild f) (ho' : OpX K r' g) (hg : Mild g) (ha : EvX K W env ta m1) (hb : EvX K W env tb m2) (hc : EvX K W env tc m3) :
    EvX K W env (tChain r r' ta tb tc) (m1.bind fun x => m2.bind fun y => (f x y).bind fun b => cond b (m3.bind fun z => g y z) (.ok false)) := fun F0 H0 F H σ Q S k => by
  refine ha F0 H0 F H σ _ S (KE.cut S.ex k fun x v F1 H1 e1 a1 r1 k1 => ?_)
  refine hb F0 H0 F1 H1 σ _ (S.step a1) (KE.cut a1.in_ k1 fun y u F2 H2 e2 a2 r2 k2 => ?_)
  refine ho F2 H2 x y v u _ a2.in_ (Rep.mono a2.f _ _ r1) r2 ?_
  cases q : f x y with
  | ok b =>
    rw [q] at k2
    intro w F3 H3 a3 rb
    refine ⟨b, rb, ?_⟩
    cases b with
    | true =>
      have k3 : KE K W F2 H2 σ Q (m3.bind fun z => g y z) := k2
      show tc σ H3 _
      refine hc F0 H0 F3 H3 σ _ (((S.step a1).step a2).step a3) (KE.cut a3.in_ (k3.adv a3) fun z w F4 H4 e4 a4 r4 k4 => ?_)
      exact ho' F4 H4 y z u w Q a4.in_ (Rep.mono (a3.trans a4).f _ _ r2) r4 (k4.mild (hg y z))
    | false => exact k2 _ F3 H3 a3 rfl
  | exc c => exact absurd q (hf x y c)
  | stuck => rw [q] at k2; exact k2.elim

/-! ### arguments, displays, calls -/
theorem ea_nil : EvA K W env tNil (.ok ()) := fun F0 H0 F H σ Q S k => k [] F H (Adv.refl S.ex) rfl
theorem ea_cons {δ : Type} [ToDs δ] {t : TA} {m1 : Res α} {m2 : Res δ} (ha : EvX K W env te m1) (hb : EvA K W env t m2) : EvA K W env (tCons te t) (m1.bind fun x => m2.bind fun y => .ok (x, y)) := fun F0 H0 F H σ Q S k => by
  refine ha F0 H0 F H σ _ S ?_
  cases m1 with
  | ok x =>
    intro v F1 H1 a1 r1
    have k1 : KA K W F H σ Q (m2.bind fun y => .ok (x, y)) := k
    refine hb F0 H0 F1 H1 σ _ (S.step a1) ?_
    cases m2 with
    | ok y =>
      intro vs F2 H2 a2 r2
      exact k1 (v :: vs) F2 H2 (a1.trans a2) ⟨v, vs, rfl, Rep.mono a2.f _ _ r1, r2⟩
    | exc c => exact fun F2 H2 a2 => k1 F2 H2 (a1.trans a2)
    | stuck => exact k1.elim
  | exc c => exact k
  | stuck => exact k.elim
/-- a tuple that is made; its type by f -/
theorem ev_tup {δ : Type} [ToDs δ] {t : TA} {m : Res δ} {f : δ → α} (ha : EvA K W env t m) (hf : ∀ y : δ, toD (f y) = .tup (ToDs.ds y)) (hn : ∀ y : δ, (ToDs.ds y).length ≤ 100000) : EvX K W env (tTup t) (m.bind fun y => .ok (f y)) := fun F0 H0 F H σ Q S k => by
  refine ha F0 H0 F H σ _ S ?_
  cases m with
  | ok y =>
    intro vs F1 H1 a1 r1
    refine ⟨by rw [← r1.length]; exact Evl.sz_of (hn y), fun p hp => ?_⟩
    have a2 : Adv F1 H1 (upd F1 p (.tup vs)) (upd H1 p (.tup vs)) := Adv.new a1.in_ hp
    refine k _ _ _ (a1.trans a2) ?_
    rw [hf]
    exact ⟨p, vs, rfl, .inl (.inl upd_same), Reps.mono a2.f _ _ r1⟩
  | exc c => exact k
  | stuck => exact k.elim
/-- a list that is made -/
theorem en_lst {δ : Type} [ToDs δ] {t : TA} {m : Res δ} {f : δ → List α} (ha : EvA K W env t m) (hf : ∀ y : δ, (f y).map toD = ToDs.ds y) (hn : ∀ y : δ, (ToDs.ds y).length ≤ 100000) : EvN K W env (tLst t) (m.bind fun y => .ok (f y)) := fun F0 H0 F H σ Q S k => by
  refine ha F0 H0 F H σ _ S ?_
  cases m with
  | ok y =>
    intro vs F1 H1 a1 r1
    refine ⟨by rw [← r1.length]; exact Evl.sz_of (hn y), fun p hp => ?_⟩
    refine k p vs _ _ (a1.trans (Adv.newO a1.in_ hp)) (Evl.fresh_back a1.h hp) (none_of_ex a1.in_ hp) upd_same ?_
    rw [hf]
    exact r1
  | exc c => exact k
  | stuck => exact k.elim
/-- a new list as a value that is not changed later -/
theorem ev_ofN {m : Res (List α)} (h : EvN K W env te m) : EvX K W env te m := fun F0 H0 F H σ Q S k => by
  refine h F0 H0 F H σ Q S ?_
  cases m with
  | ok xs =>
    intro p vs F1 H1 a1 hp hf hh r
    have e : Ex F1 (upd F1 p (.lst vs)) := Ex.new hf
    refine k _ (upd F1 p (.lst vs)) H1 ⟨a1.f.trans e, a1.h, fun a u q => ?_, fun q h1 h2 => ?_⟩ ⟨p, vs, rfl, upd_same, Reps.mono e _ _ r⟩
    · by_cases z : a = p
      · subst z; rw [upd_same] at q; cases q; exact hh
      · rw [upd_ne z] at q; exact a1.in_ a u q
    · have z : q ≠ p := fun z => h2 (by rw [z]; exact hp)
      rw [upd_ne z]; exact a1.out q h1 h2
  | exc c => exact k
  | stuck => exact k.elim
/-- a def's promise, by the function that tells what it gives -/
def spM (K : PySem.W.Frag) {δ : Type} [ToDs δ] (f : δ → Res α) : Sp := fun vs H Q E => ∃ F x, Ex F H ∧ Reps K F (ToDs.ds x) vs ∧ KE K (fun cls d _ H => E cls d H) F H [] Q (f x)
theorem ev_call {δ : Type} [ToDs δ] {t : TA} {m : Res δ} {f : δ → Res α} (ha : EvA K W env t m) : EvX K W env (tCallS (spM K f) (WE W) t) (m.bind f) := fun F0 H0 F H σ Q S k => by
  refine ha F0 H0 F H σ _ S ?_
  cases m with
  | ok y =>
    intro vs F1 H1 a1 r1
    refine ⟨F1, y, a1.in_, r1, ?_⟩
    have k : KE K W F H σ Q (f y) := k
    have k := k.adv a1
    revert k
    generalize f y = z
    intro k
    cases z with
    | ok z => exact k
    | exc c => exact k
    | stuck => exact k.elim
  | exc c => exact k
  | stuck => exact k.elim
namespace Res
def noexc {α : Type} : Res α → Res α
  | .exc _ => .stuck
  | m => m
end Res
/-- a call of a def that lets nothing out there -/
theorem ev_call0 {δ : Type} [ToDs δ] {t : TA} {m : Res δ} {f : δ → Res α} (ha : EvA K W env t m) : EvX K W env (tCall (spM K f) [] E0 t) (m.bind fun y => (f y).noexc) := fun F0 H0 F H σ Q S k => by
  refine ha F0 H0 F H σ _ S ?_
  cases m with
  | ok y =>
    intro vs F1 H1 a1 r1
    refine ⟨F1, y, a1.in_, by rw [List.append_nil]; exact r1, ?_⟩
    have k : KE K W F H σ Q (f y).noexc := k
    have k := k.adv a1
    revert k
    generalize f y = z
    intro k
    cases z with
    | ok z => exact k
    | exc c => exact k.elim
    | stuck => exact k.elim
  | exc c => exact k
  | stuck => exact k.elim
/-- built-in defs by their values -/
def CrX (K : PySem.W.Frag) (r : List V → Hp → VK → Prop) {δ : Type} [ToDs δ] (f : δ → Res α) : Prop := ∀ (F H : Hp) (x : δ) (vs : List V) (Q : VK), Ex F H → Reps K F (ToDs.ds x) vs → KE K (fun _ _ _ _ => False) F H [] Q (f x) → r vs H Q
theorem ev_cb {δ : Type} [ToDs δ] {r : List V → Hp → VK → Prop} {t : TA} {m : Res δ} {f : δ → Res α} (ho : CrX K r f) (hm : ∀ x c, f x ≠ .exc c) (ha : EvA K W env t m) : EvX K W env (tCB r t) (m.bind f) := fun F0 H0 F H σ Q S k => by
  refine ha F0 H0 F H σ _ S ?_
  cases m with
  | ok y =>
    intro vs F1 H1 a1 r1
    have k : KE K W F H σ Q (f y) := k
    exact ho F1 H1 y vs Q a1.in_ r1 ((k.adv a1).mild (hm y))
  | exc c => exact k
  | stuck => exact k.elim
end
end Mi
set_option maxHeartbeats 1000000
namespace Mi
open PySem PySem.Spec L2
open Evl (Ex)

/-! ### statements -/
inductive EnLe : En → En → Prop
  | nil : EnLe [] []
  | same {e : Option Sk} {l m : En} : EnLe l m → EnLe (e :: l) (e :: m)
  | drop {e : Option Sk} {l m : En} : EnLe l m → EnLe (e :: l) (none :: m)
theorem EnLe.refl : ∀ l : En, EnLe l l
  | [] => .nil
  | _ :: l => .same (EnLe.refl l)
theorem EnLe.get : ∀ {l m : En}, EnLe l m → ∀ {i : Nat} {sk : Sk}, m[i]? = some (some sk) → l[i]? = some (some sk)
  | _, _, .nil, i, sk, h => h
  | _, _, .same t, 0, sk, h => h
  | _, _, .same t, i + 1, sk, h => EnLe.get t (by simpa using h)
  | _, _, .drop t, 0, sk, h => by simp at h
  | _, _, .drop t, i + 1, sk, h => EnLe.get t (by simpa using h)
theorem EnLe.len {l m : En} (h : EnLe l m) : l.length = m.length := by
  induction h with
  | nil => rfl
  | same _ ih => simp [ih]
  | drop _ ih => simp [ih]
theorem Sl.weak {K : PySem.W.Frag} {F0 H0 F H : Hp} {σ : L2.St} {env env' : En} (S : Sl K F0 H0 F H σ env) (h : EnLe env env') : Sl K F0 H0 F H σ env' :=
  ⟨S.adv, fun i sk e => S.slot i sk (h.get e), fun i j sk sk' p hij e1 e2 => S.dis i j sk sk' p hij (h.get e1) (h.get e2), S.len.trans h.len⟩
def Blk (K : PySem.W.Frag) (F0 H0 : Hp) {τ : Type} (KP : Res τ → Prop) (T : L2.St → Hp → Prop) (env : En) (m : Res τ) : Prop :=
  ∀ F H σ, Sl K F0 H0 F H σ env → KP m → T σ H
/-- what is asked of a returned value besides: of most types nothing -/
class ToR (τ : Type) where
  fr : PySem.W.Frag → τ → V → Hp → Hp → Hp → Prop
instance (priority := low) dfltR {τ : Type} : ToR τ := ⟨fun _ _ _ _ _ _ => True⟩
class DR (τ : Type) [ToR τ] : Prop where
  tr : ∀ K (x : τ) v H0 F H, ToR.fr K x v H0 F H
instance (priority := low) dfltD {τ : Type} : @DR τ dfltR := @DR.mk τ dfltR fun _ _ _ _ _ _ => trivial
structure Lk (K : PySem.W.Frag) (W : WX) (F0 H0 : Hp) (rt : VK) (PT : En → Prop) {τ : Type} [ToD τ] [ToR τ] (KP : Res τ → Prop) : Prop where
  ok : ∀ x, KP (.ok x) → ∀ v F H, Adv F0 H0 F H → Rep K F (toD x) v → ToR.fr K x v H0 F H → rt v H
  exc : ∀ c F H σ env, KP (.exc c) → PT env → Sl K F0 H0 F H σ env → W (.ref (He.ga K c)) none σ H
  no : ¬ KP .stuck
section
variable {K : PySem.W.Frag} {W : WX} {F0 H0 F H F' H' F1 : Hp} {rt : VK} {PT : En → Prop} {env env' : En} {α β γ τ : Type} [ToD α] [ToD β] [ToD γ] [ToD τ] [ToR τ] {KP : Res τ → Prop} {te ta tb tc : TE} {tt : TT} {Z : Ends} {t u : TS} {T : L2.St → Hp → Prop}
theorem Sl.base {σ : L2.St} (S : Sl K F0 H0 F1 H' σ env) {σ' : L2.St} (S' : Sl K F1 H0 F H σ' env') : Sl K F0 H0 F H σ' env' :=
  ⟨⟨S.adv.f.trans S'.adv.f, S'.adv.h, S'.adv.in_, fun p h1 h2 => S'.adv.out p (S.adv.out p h1 h2) h2⟩, S'.slot, S'.dis, S'.len⟩
theorem Lk.base (L : Lk K W F0 H0 rt PT KP) {σ : L2.St} (S : Sl K F0 H0 F1 H' σ env) : Lk K W F1 H0 rt PT KP :=
  ⟨fun x h v F H a r => L.ok x h v F H ⟨S.adv.f.trans a.f, a.h, a.in_, fun p h1 h2 => a.out p (S.adv.out p h1 h2) h2⟩ r,
   fun c F H σ' env' h p S' => L.exc c F H σ' env' h p (S.base S'), L.no⟩
theorem Blk.base {m : Res τ} (B : Blk K F0 H0 KP T env' m) {σ : L2.St} (S : Sl K F0 H0 F1 H' σ env) : Blk K F1 H0 KP T env' m := fun F H σ' S' h => B F H σ' (S.base S') h
theorem Blk.weak {m : Res τ} (B : Blk K F0 H0 KP T env' m) (h : EnLe env env') : Blk K F0 H0 KP T env m := fun F H σ S k => B F H σ (S.weak h) k

/-- what follows an expression in a block -/
theorem Lk.ke (L : Lk K W F0 H0 rt PT KP) (hT : PT env) {σ : L2.St} (S : Sl K F0 H0 F H σ env) {m : Res α} {f : α → Res τ} (h : KP (m.bind f)) {Q : VK}
    (k : ∀ x v F' H', m = .ok x → Adv F H F' H' → Rep K F' (toD x) v → KP (f x) → Q v H') : KE K W F H σ Q m := by
  cases m with
  | ok x => exact fun v F' H' a r => k x v F' H' rfl a r h
  | exc c => exact fun F' H' a => L.exc c F' H' σ env h hT (S.step a)
  | stuck => exact (L.no h).elim
theorem Lk.kt (L : Lk K W F0 H0 rt PT KP) (hT : PT env) {σ : L2.St} (S : Sl K F0 H0 F H σ env) {m : Res Bool} {f : Bool → Res τ} (h : KP (m.bind f)) {Q : Bool → Hp → Prop}
    (k : ∀ x F' H', m = .ok x → Adv F H F' H' → KP (f x) → Q x H') : KT K W F H σ Q m := by
  cases m with
  | ok x => exact fun F' H' a => k x F' H' rfl a h
  | exc c => exact fun F' H' a => L.exc c F' H' σ env h hT (S.step a)
  | stuck => exact (L.no h).elim
theorem Lk.kn (L : Lk K W F0 H0 rt PT KP) (hT : PT env) {σ : L2.St} (S : Sl K F0 H0 F H σ env) {m : Res (List α)} {f : List α → Res τ} (h : KP (m.bind f)) {Q : VK}
    (k : ∀ xs p vs F' H', m = .ok xs → Adv F H F' H' → H p = none → F' p = none → H' p = some (.lst vs) → Reps K F' (xs.map toD) vs → KP (f xs) → Q (.ref p) H') : KN K W F H σ Q m := by
  cases m with
  | ok x => exact fun p vs F' H' a h1 h2 h3 h4 => k x p vs F' H' rfl a h1 h2 h3 h4 h
  | exc c => exact fun F' H' a => L.exc c F' H' σ env h hT (S.step a)
  | stuck => exact (L.no h).elim

theorem blk_seq {m : Res τ} (h : Blk K F0 H0 KP (t { Z with nx := u Z }) env m) : Blk K F0 H0 KP (tSeq t u Z) env m := h
theorem blk_nil {m : Res τ} (h : Blk K F0 H0 KP Z.nx env m) : Blk K F0 H0 KP (tNext Z) env m := h

theorem Blk.nx {m : Res τ} {T bk ct : L2.St → Hp → Prop} {r : VK} (h : Blk K F0 H0 KP T env m) : Blk K F0 H0 KP (Ends.nx ⟨T, r, bk, ct⟩) env m := h
/-! targets -/
def GX (K : PySem.W.Frag) (g : TG) (x : D) (f : En → En) (ws : List Nat) : Prop := ∀ (F0 H0 F H : Hp) (σ : L2.St) (env : En) (v : V) (T : L2.St → Hp → Prop), Sl K F0 H0 F H σ env → Rep K F x v →
  (∀ σ', Sl K F0 H0 F H σ' (f env) → σ'.length = σ.length → (∀ j, j ∉ ws → σ'[j]? = σ[j]?) → T σ' H) → g v σ H T
def GXs (K : PySem.W.Frag) (g : TGs) (xs : List D) (f : En → En) (ws : List Nat) : Prop := ∀ (F0 H0 F H : Hp) (σ : L2.St) (env : En) (vs : List V) (T : L2.St → Hp → Prop), Sl K F0 H0 F H σ env → Reps K F xs vs →
  (∀ σ', Sl K F0 H0 F H σ' (f env) → σ'.length = σ.length → (∀ j, j ∉ ws → σ'[j]? = σ[j]?) → T σ' H) → g vs σ H T
def stE (i : Nat) (x : D) : En → En := fun env => env.set i (some (.im x))
theorem gx_name {i : Nat} {x : D} : GX K (gName i) x (stE i x) [i] := fun F0 H0 F H σ env v T S r k =>
  k _ (S.setIm r) (by rw [List.length_set]) fun j hj => List.getElem?_set_ne fun e => hj (by rw [e]; exact List.mem_singleton.mpr rfl)
theorem blk_asg {g : TG} {m : Res α} {f : α → Res τ} {fe : α → En → En} {ws : List Nat} (L : Lk K W F0 H0 rt PT KP) (hT : PT env) (he : EvX K W env te m) (hg : ∀ x, GX K g (toD x) (fe x) ws)
    (k : ∀ x, Blk K F0 H0 KP Z.nx (fe x env) (f x)) : Blk K F0 H0 KP (tAsg te g Z) env (m.bind f) := fun F H σ S h =>
  he F0 H0 F H σ _ S (L.ke hT S h fun x v F1 H1 e1 a1 r1 h1 => hg x F0 H0 F1 H1 σ env v _ (S.step a1) r1 fun σ' S' _ _ => k x F1 H1 σ' S' h1)
theorem blk_set {i : Nat} {m : Res α} {f : α → Res τ} (L : Lk K W F0 H0 rt PT KP) (hT : PT env) (he : EvX K W env te m)
    (k : ∀ x, Blk K F0 H0 KP Z.nx (env.set i (some (.im (toD x)))) (f x)) : Blk K F0 H0 KP (tAsg te (gName i) Z) env (m.bind f) :=
  blk_asg L hT he (fun _ => gx_name) k
/-- x = a new list that is changed later -/
theorem blk_own {i : Nat} {m : Res (List α)} {f : List α → Res τ} (L : Lk K W F0 H0 rt PT KP) (hT : PT env) (he : EvN K W env te m)
    (k : ∀ xs, Blk K F0 H0 KP Z.nx (env.set i (some (.ow (xs.map toD)))) (f xs)) : Blk K F0 H0 KP (tAsg te (gName i) Z) env (m.bind f) := fun F H σ S h =>
  he F0 H0 F H σ _ S (L.kn hT S h fun xs p vs F1 H1 e1 a1 hp hf hh r h1 => by
    have S1 := S.step a1
    refine k xs F1 H1 _ (S1.setOw (Evl.fresh_back S.adv.h hp) hf hh (fun j sk' e ho z => ?_) r) h1
    obtain ⟨v, e2, q⟩ := S.slot j _ e
    obtain ⟨p', o', rfl, _, _, q4⟩ := q.at ho
    rw [e2] at z
    cases z
    rw [hp] at q4; cases q4)
/-- x.append(e), x an owned list -/
theorem blk_app {i : Nat} {xs : List β} {m : Res β} {f : β → Res τ} (L : Lk K W F0 H0 rt PT KP) (hT : PT env) (hx : env[i]? = some (some (.ow (xs.map toD)))) (he : EvX K W env te m)
    (k : ∀ y, Blk K F0 H0 KP Z.nx (env.set i (some (.ow ((xs ++ [y]).map toD)))) (f y)) :
    Blk K F0 H0 KP (tDrop (tBM K "list" rAppend (tVar i) (tCons te tNil)) Z) env (m.bind fun y => .need (xs.length < 16777216) (f y)) := fun F H σ S h => by
  obtain ⟨v, e, p, vs, rfl, h0, hf, hp, hr⟩ := S.slot i _ hx
  refine ⟨_, e, .inl ⟨rfl, _, .inl (.inl hp)⟩, ?_⟩
  refine he F0 H0 F H σ _ S (L.ke hT S h fun y u F1 H1 e1 a1 r1 h1 => ?_)
  by_cases c : xs.length < 16777216
  · rw [Res.need_pos c] at h1
    have hr' := Reps.mono a1.f _ _ hr
    refine ⟨p, vs, u, rfl, rfl, a1.h _ _ hp, by rw [sizeLine_eq, ← hr.length, List.length_map]; exact c, ?_⟩
    refine k y F1 _ σ ((S.step a1).chg hx e (a1.out p hf (by rw [hp]; simp)) h0 ?_) h1
    rw [List.map_append]
    exact Reps.append hr' (Reps.one r1)
  · rw [Res.need_neg c] at h1
    exact (L.no h1).elim
theorem blk_freeze {xs : List D} (i : Nat) {m : Res τ} (hx : env[i]? = some (some (.ow xs))) (k : Blk K F0 H0 KP T (env.set i (some (.im (.lst xs)))) m) : Blk K F0 H0 KP T env m := fun F H σ S h => by
  obtain ⟨F', _, S'⟩ := S.freeze hx
  exact k F' H σ S' h
theorem blk_if {m : Res Bool} {f : Bool → Res τ} (L : Lk K W F0 H0 rt PT KP) (hT : PT env) (hc : EvT K W env tt m) (h1 : Blk K F0 H0 KP (t Z) env (f true)) (h2 : Blk K F0 H0 KP (u Z) env (f false)) :
    Blk K F0 H0 KP (tIfS tt t u Z) env (m.bind f) := fun F H σ S h =>
  hc F0 H0 F H σ _ S (L.kt hT S h fun b F1 H1 e1 a1 k1 => by
    cases b with
    | true => exact h1 F1 H1 σ (S.step a1) k1
    | false => exact h2 F1 H1 σ (S.step a1) k1)
theorem blk_ret {m : Res τ} [DR τ] (L : Lk K W F0 H0 rt PT KP) (hT : PT env) (he : EvX K W env te m) (hZ : Z.rt = rt := by rfl) : Blk K F0 H0 KP (tRet te Z) env m := fun F H σ S h => by
  subst hZ
  rw [← Res.bind_pure m] at h
  exact he F0 H0 F H σ _ S (L.ke hT S h fun x v F1 H1 e1 a1 r1 h1 => L.ok x h1 v F1 H1 (S.adv.trans a1) r1 (DR.tr _ _ _ _ _ _))
/-- a value of another type is handed back -/
theorem blk_retAs {m : Res α} {f : α → τ} [DR τ] (L : Lk K W F0 H0 rt PT KP) (hT : PT env) (he : EvX K W env te m) (hf : ∀ x, toD (f x) = toD x) (hZ : Z.rt = rt := by rfl) : Blk K F0 H0 KP (tRet te Z) env (m.bind fun x => .ok (f x)) := fun F H σ S h => by
  subst hZ
  exact he F0 H0 F H σ _ S (L.ke hT S h fun x v F1 H1 e1 a1 r1 h1 => L.ok (f x) h1 v F1 H1 (S.adv.trans a1) (by rw [hf]; exact r1) (DR.tr _ _ _ _ _ _))
/-- raise X('..') -/
theorem blk_raise {c : Str} (L : Lk K W F0 H0 rt PT KP) (hT : PT env) : Blk K F0 H0 KP (fun σ H => W (.ref (He.ga K c)) none σ H) env (.exc c) := fun F H σ S h => L.exc c F H σ env h hT S
/-! ### loops -/
structure JS (K : PySem.W.Frag) (F : Hp) (J : It) (xs : List D) : Prop where
  go : ∀ i H, Ex F H → i < xs.length → J.go i H
  stop : ∀ i H, Ex F H → xs.length ≤ i → J.stop i H
  yld : ∀ i H v H' F1, Ex F F1 → Ex F1 H → i < xs.length → J.yld i H v H' → ∃ F2 x, Adv F1 H F2 H' ∧ xs[i]? = some x ∧ Rep K F2 x v
def KI (K : PySem.W.Frag) (W : WX) (F H : Hp) (σ : L2.St) {α : Type} [ToD α] (R : It → Hp → Prop) : Res (List α) → Prop
  | .ok xs => ∀ J F' H', Adv F H F' H' → JS K F' J (xs.map toD) → R J H'
  | .exc c => ∀ F' H', Adv F H F' H' → W (.ref (He.ga K c)) none σ H'
  | .stuck => False
def EvI (K : PySem.W.Frag) (W : WX) (env : En) (wi : TI) {α : Type} [ToD α] (m : Res (List α)) : Prop :=
  ∀ F0 H0 F H σ R, Sl K F0 H0 F H σ env → KI K W F H σ R m → wi σ H R
theorem Lk.ki (L : Lk K W F0 H0 rt PT KP) (hT : PT env) {σ : L2.St} (S : Sl K F0 H0 F H σ env) {m : Res (List α)} {f : List α → Res τ} (h : KP (m.bind f)) {R : It → Hp → Prop}
    (k : ∀ xs J F' H', m = .ok xs → Adv F H F' H' → JS K F' J (xs.map toD) → KP (f xs) → R J H') : KI K W F H σ R m := by
  cases m with
  | ok x => exact fun J F' H' a h1 => k x J F' H' rfl a h1 h
  | exc c => exact fun F' H' a => L.exc c F' H' σ env h hT (S.step a)
  | stuck => exact (L.no h).elim
theorem js_list {a : Addr} {vs : List V} {xs : List D} (hl : SqL K F a vs) (hr : Reps K F xs vs) : JS K F (Itl K a) xs := by
  have hn := hr.length
  refine ⟨fun i H e hi => ?_, fun i H e hi => ?_, fun i H v H' F1 e1 e2 hi hy => ?_⟩
  · exact ⟨vs, vs[i]'(by omega), Evl.ex_l e hl, List.getElem?_eq_getElem (by omega)⟩
  · exact ⟨vs, Evl.ex_l e hl, by omega⟩
  · obtain ⟨e, f⟩ := hy
    subst e
    have g := f vs (Evl.ex_l (e1.trans e2) hl)
    obtain ⟨w, q1, q2⟩ := hr.get (i := i) (e := xs[i]) (List.getElem?_eq_getElem hi)
    rw [g] at q1; cases q1
    exact ⟨F1, xs[i], Adv.refl e2, List.getElem?_eq_getElem hi, Rep.mono e1 _ _ q2⟩
theorem ei_list {m : Res (List α)} (h : EvX K W env te m) : EvI K W env (iList K te) m := fun F0 H0 F H σ R S k => by
  refine h F0 H0 F H σ _ S ?_
  cases m with
  | ok xs =>
    intro v F1 H1 a r
    obtain ⟨p, vs, rfl, h1, h2⟩ := r
    exact ⟨p, rfl, ⟨vs, sq_ex a.in_ h1⟩, k _ F1 H1 a (js_list (Evl.sq_of h1) h2)⟩
  | exc c => exact k
  | stuck => exact k.elim
def pyRange (lo hi : Int) : List Int := (List.range (hi - lo).toNat).map fun (i : Nat) => lo + (i : Int)
theorem pyRange_len (lo hi : Int) : (pyRange lo hi).length = (hi - lo).toNat := by simp [pyRange]
theorem pyRange_get {lo hi : Int} {i : Nat} (h : i < (hi - lo).toNat) : (pyRange lo hi)[i]? = some (lo + (i : Int)) := by
  simp [pyRange, h]
theorem js_range {lo hi : Int} : JS K F (Itr lo (hi - lo).toNat) ((pyRange lo hi).map toD) := by
  refine ⟨fun i H e h => ?_, fun i H e h => ?_, fun i H v H' F1 e1 e2 h hy => ?_⟩
  · rw [List.length_map, pyRange_len] at h; exact h
  · rw [List.length_map, pyRange_len] at h; exact h
  · rw [List.length_map, pyRange_len] at h
    obtain ⟨e, q⟩ := hy
    subst e q
    exact ⟨F1, .int (lo + (i : Int)), Adv.refl e2, by rw [List.getElem?_map, pyRange_get h]; rfl, rfl⟩
abbrev okRange (i : Int) : Prop := -(2 ^ 62) ≤ i ∧ i < 2 ^ 62
theorem ei_range1 {m : Res Int} (h : EvX K W env te m) : EvI K W env (iRng1 (tCons te tNil)) (m.bind fun j => .need (okRange j) (.ok (pyRange 0 j))) := fun F0 H0 F H σ R S k => by
  refine h F0 H0 F H σ _ S ?_
  cases m with
  | ok j =>
    intro v F1 H1 a r
    cases (show v = V.int j from r)
    have k : KI K W F H σ R (.need (okRange j) (.ok (pyRange 0 j))) := k
    by_cases c : okRange j
    · rw [Res.need_pos c] at k
      refine ⟨j, rfl, c.1, c.2, k _ F1 H1 a ?_⟩
      have := js_range (K := K) (F := F1) (lo := 0) (hi := j)
      rw [Int.sub_zero] at this
      exact this
    · rw [Res.need_neg c] at k; exact k.elim
  | exc c => exact k
  | stuck => exact k.elim
/-- range(i, j, -1) -/
def pyDown (i j : Int) : List Int := (List.range (i - j).toNat).map fun (a : Nat) => i - (a : Int)
theorem blk_for {S : Type} {wi : TI} {g : TG} {tb : TS} {m : Res (List α)} {fe : α → En → En} {ws : List Nat} (loop : List α → S → Res τ) (k : S → Res τ) (envS : S → En) (s0 : S)
    (L : Lk K W F0 H0 rt PT KP) (hT : PT env) (hi : EvI K W env wi m) (hg : ∀ x, GX K g (toD x) (fe x) ws) (h0 : EnLe env (envS s0)) (hnil : ∀ s, loop [] s = k s)
    (hbody : ∀ F1, Lk K W F1 H0 rt PT KP → (∀ s, Blk K F1 H0 KP Z.nx (envS s) (k s)) → ∀ x r s (N : L2.St → Hp → Prop), (∀ s', Blk K F1 H0 KP N (envS s') (loop r s')) →
      Blk K F1 H0 KP (tb { Z with nx := N, ct := N, bk := Z.nx }) (fe x (envS s)) (loop (x :: r) s))
    (hrest : ∀ s, Blk K F0 H0 KP Z.nx (envS s) (k s)) : Blk K F0 H0 KP (tFor wi g tb Z) env (m.bind fun xs => loop xs s0) := fun F H σ S h => by
  refine hi F0 H0 F H σ _ S (L.ki hT S h fun xs J F1 H1 e1 a1 js h1 => ?_)
  have S1 := (S.step a1).weak h0
  have S11 : Sl K F1 H0 F1 H1 σ (envS s0) := ⟨⟨Ex.refl _, S1.adv.h, S1.adv.in_, fun p q _ => q⟩, S1.slot, S1.dis, S1.len⟩
  have hB := hbody F1 (L.base S1) (fun s => (hrest s).base S1)
  have hn : (xs.map toD).length = xs.length := List.length_map ..
  refine ⟨fun i m σ H => m = xs.length - i ∧ i ≤ xs.length ∧ ∃ F s, Sl K F1 H0 F H σ (envS s) ∧ KP (loop (xs.drop i) s), ⟨xs.length, rfl, Nat.zero_le _, F1, s0, S11, h1⟩, ?_⟩
  rintro i m σ H ⟨rfl, hle, F, s, S, h⟩
  by_cases hlt : i < xs.length
  · refine .inr ⟨js.go i H (S.adv.f.trans S.ex) (by rw [hn]; exact hlt), fun σ' H' => ∃ F s, Sl K F1 H0 F H' σ' (envS s) ∧ KP (loop (xs.drop (i + 1)) s), fun σ' H' w => ⟨_, by omega, rfl, hlt, w⟩, fun v H' hy => ?_⟩
    obtain ⟨F2, x, a2, ex, rx⟩ := js.yld i H v H' F S.adv.f S.ex (by rw [hn]; exact hlt) hy
    rw [List.getElem?_map, List.getElem?_eq_getElem hlt] at ex
    cases ex
    refine hg xs[i] F1 H0 F2 H' σ (envS s) v _ (S.step a2) rx fun σ' S' _ _ => ?_
    have e : xs.drop i = xs[i] :: xs.drop (i + 1) := List.drop_eq_getElem_cons hlt
    rw [e] at h
    exact hB xs[i] (xs.drop (i + 1)) s _ (fun s' F H σ S h => ⟨F, s', S, h⟩) F2 H' σ' S' h
  · have e : xs.drop i = [] := List.drop_of_length_le (by omega)
    rw [e, hnil] at h
    exact .inl ⟨js.stop i H (S.adv.f.trans S.ex) (by rw [hn]; omega), (hrest s).base S1 F H σ S h⟩
/-! ### comprehensions -/
def compL {α β : Type} (t : α → Res Bool) (e : α → Res β) : List α → Res (List β)
  | [] => .ok []
  | x :: r => (t x).bind fun b => cond b ((e x).bind fun y => (compL t e r).bind fun ys => .ok (y :: ys)) (compL t e r)
def mapL {α β : Type} (e : α → Res β) : List α → Res (List β)
  | [] => .ok []
  | x :: r => (e x).bind fun y => (mapL e r).bind fun ys => .ok (y :: ys)
end
end Mi
set_option maxHeartbeats 1000000
namespace Mi
open PySem PySem.Spec L2
open Evl (Ex)
section
variable {K : PySem.W.Frag} {W : WX} {F0 H0 F H F' H' F1 : Hp} {rt : VK} {PT : En → Prop} {env env' : En} {α β γ τ : Type} [ToD α] [ToD β] [ToD γ] [ToD τ] [ToR τ] {KP : Res τ → Prop} {te ta tb tc : TE} {tt : TT} {Z : Ends} {t u : TS} {T : L2.St → Hp → Prop} {σ : L2.St}

/-! ### comprehensions -/
theorem Sl.updN (S : Sl K F0 H0 F H σ env) {p : Addr} {o : HO} (hp : F p = none) (h0 : H0 p = none) (hn : ∀ (i : Nat) (sk : Sk), env[i]? = some (some sk) → sk.own = true → σ[i]? ≠ some (some (V.ref p))) : Sl K F0 H0 F (upd H p o) σ env := by
  refine ⟨⟨S.adv.f, fun a u q => ?_, fun a u q => ?_, S.adv.out⟩, fun j sk q => ?_, S.dis, S.len⟩
  · rw [upd_ne (ne_of_none q h0)]; exact S.adv.h a u q
  · rw [upd_ne (ne_of_none q hp)]; exact S.adv.in_ a u q
  · obtain ⟨w, h1, h2⟩ := S.slot j sk q
    exact ⟨w, h1, h2.updH fun o2 zz => hn j sk q o2 (by rw [h1, zz])⟩
/-- the names of a comprehension are forgotten -/
def unset : List Nat → En → En
  | [], e => e
  | i :: is, e => (unset is e).set i none
theorem unset_len (e : En) : ∀ ws : List Nat, (unset ws e).length = e.length
  | [] => rfl
  | i :: is => by show ((unset is e).set i none).length = _; rw [List.length_set, unset_len e is]
theorem unset_get {e : En} {j : Nat} {sk : Sk} : ∀ {ws : List Nat}, (unset ws e)[j]? = some (some sk) → e[j]? = some (some sk) ∧ j ∉ ws
  | [], h => ⟨h, by simp⟩
  | i :: is, h => by
    have h : ((unset is e).set i none)[j]? = some (some sk) := h
    rcases set_get h with ⟨_, z⟩ | ⟨z, h⟩
    · cases z
    · obtain ⟨h1, h2⟩ := unset_get h
      exact ⟨h1, by simp only [List.mem_cons, not_or]; exact ⟨fun e => z e.symm, h2⟩⟩
theorem Sl.wipe (S : Sl K F0 H0 F H σ env) (ws : List Nat) : Sl K F0 H0 F H (L2.wipe σ ws) (unset ws env) := by
  refine ⟨S.adv, fun i sk e => ?_, fun i j xs ys p hij e1 e2 o1 o2 h1 => ?_, by rw [wipe_length, unset_len]; exact S.len⟩
  · obtain ⟨e, hn⟩ := unset_get e
    rw [wipe_out hn]; exact S.slot i sk e
  · obtain ⟨e1, n1⟩ := unset_get e1
    obtain ⟨e2, n2⟩ := unset_get e2
    rw [wipe_out n1] at h1
    rw [wipe_out n2]
    exact S.dis i j xs ys p hij e1 e2 o1 o2 h1
theorem wipe_in {j : Nat} : ∀ {ws : List Nat}, j ∈ ws → j < σ.length → (L2.wipe σ ws)[j]? = some none
  | [], h, _ => by cases h
  | i :: is, h, hl => by
    show ((L2.wipe σ is).set i none)[j]? = some none
    by_cases e : i = j
    · subst e
      rw [List.getElem?_set_self (by rw [wipe_length]; exact hl)]
    · rw [List.getElem?_set_ne e]
      rcases List.mem_cons.mp h with z | z
      · exact absurd z.symm e
      · exact wipe_in z hl
theorem wipe_eq {σ' : L2.St} {ws : List Nat} (hl : σ'.length = (L2.wipe σ ws).length) (ho : ∀ j, j ∉ ws → σ'[j]? = (L2.wipe σ ws)[j]?) : L2.wipe σ' ws = L2.wipe σ ws := by
  rw [wipe_length] at hl
  apply List.ext_getElem?
  intro j
  by_cases hj : j ∈ ws
  · by_cases hlt : j < σ.length
    · rw [wipe_in hj hlt, wipe_in hj (by rw [hl]; exact hlt)]
    · rw [List.getElem?_eq_none (by rw [wipe_length]; omega), List.getElem?_eq_none (by rw [wipe_length]; omega)]
  · rw [wipe_out hj, ho j hj]
abbrev WT : WX := fun _ _ _ _ => True
theorem ev_comp {wi : TI} {g : TG} {m : Res (List α)} {fe : α → En → En} {ws : List Nat} {tst : α → Res Bool} {el : α → Res β} (hi : EvI K W env wi m) (hg : ∀ x, GX K g (toD x) (fe x) ws)
    (ht : ∀ x, EvT K WT (fe x (unset ws env)) tt (tst x)) (he : ∀ x, EvX K WT (fe x (unset ws env)) te (el x)) :
    EvN K W env (tLc wi g tt te ws) (m.bind fun xs => .need (xs.length ≤ 16777216) (compL tst el xs)) := fun F0 H0 F H σ Q S k => by
  refine hi F0 H0 F H σ _ S ?_
  cases m with
  | exc c => exact k
  | stuck => exact k.elim
  | ok xs =>
  intro J F1 H1 a1 js D hD
  have k : KN K W F H σ Q (.need (xs.length ≤ 16777216) (compL tst el xs)) := k
  by_cases c : xs.length ≤ 16777216
  case neg => rw [Res.need_neg c] at k; exact k.elim
  rw [Res.need_pos c] at k
  have hn : (xs.map toD).length = xs.length := List.length_map ..
  have hDF : F1 D = none := none_of_ex a1.in_ hD
  have hDH : H D = none := Evl.fresh_back a1.h hD
  have hD0 : H0 D = none := Evl.fresh_back S.adv.h hDH
  -- the new list is none of the slots'
  have hne : ∀ (i : Nat) (sk : Sk), env[i]? = some (some sk) → sk.own = true → σ[i]? ≠ some (some (V.ref D)) := fun i sk e ho z => by
    obtain ⟨v, e1, q⟩ := S.slot i _ e
    obtain ⟨p, o, rfl, _, _, q⟩ := q.at ho
    rw [e1] at z; cases z
    rw [hDH] at q; cases q
  have S1 : Sl K F0 H0 F1 (upd H1 D (.lst [])) σ env := (S.step a1).updN hDF hD0 hne
  refine ⟨fun i n H' => n = xs.length - i ∧ i ≤ xs.length ∧ ∃ F' acc vs, Sl K F0 H0 F' H' σ env ∧ Adv F H F' H' ∧ Ex F1 F' ∧ F' D = none ∧ H' D = some (.lst vs) ∧ Reps K F' (acc.map toD) vs ∧ acc.length ≤ i ∧
    (∀ ys, compL tst el (xs.drop i) = .ok ys → compL tst el xs = .ok (acc ++ ys)) ∧ (∀ c, compL tst el (xs.drop i) = .exc c → compL tst el xs = .exc c) ∧ (compL tst el (xs.drop i) = .stuck → compL tst el xs = .stuck),
    ⟨xs.length, rfl, Nat.zero_le _, F1, ([] : List β), [], S1, a1.trans (Adv.newO a1.in_ hD), Ex.refl _, hDF, upd_same, (show Reps K F1 [] [] from rfl), Nat.le_refl _, fun ys h => h, fun c h => h, fun h => h⟩, ?_⟩
  rintro i n H2 ⟨rfl, hle, F2, acc, vs, S2, a2, x2, f2, h2, r2, l2, q1, q2, q3⟩
  by_cases hlt : i < xs.length
  · refine .inr ⟨js.go i H2 (x2.trans a2.in_) (by rw [hn]; exact hlt), fun H' => (i + 1 ≤ xs.length ∧ ∃ F' acc vs, Sl K F0 H0 F' H' σ env ∧ Adv F H F' H' ∧ Ex F1 F' ∧ F' D = none ∧ H' D = some (.lst vs) ∧ Reps K F' (acc.map toD) vs ∧ acc.length ≤ i + 1 ∧
      (∀ ys, compL tst el (xs.drop (i + 1)) = .ok ys → compL tst el xs = .ok (acc ++ ys)) ∧ (∀ c, compL tst el (xs.drop (i + 1)) = .exc c → compL tst el xs = .exc c) ∧ (compL tst el (xs.drop (i + 1)) = .stuck → compL tst el xs = .stuck)),
      fun H' w => ⟨_, by omega, rfl, w⟩, fun v H3 hy => ?_⟩
    obtain ⟨F3, x, a3, ex, rx⟩ := js.yld i H2 v H3 F2 x2 a2.in_ (by rw [hn]; exact hlt) hy
    rw [List.getElem?_map, List.getElem?_eq_getElem hlt] at ex
    cases ex
    have e : xs.drop i = xs[i] :: xs.drop (i + 1) := List.drop_eq_getElem_cons hlt
    rw [e] at q1 q2 q3
    have S3 := S2.step a3
    refine hg xs[i] F0 H0 F3 H3 _ _ v _ (S3.wipe ws) rx fun σ' S' sl so => ⟨wipe_eq sl so, ?_⟩
    have f3 : F3 D = none := a3.out D f2 (by rw [h2]; simp)
    refine ht xs[i] F0 H0 F3 H3 σ' _ S' ?_
    cases qt : tst xs[i] with
    | exc c => exact fun _ _ _ => trivial
    | stuck =>
      have := q3 (by show (tst xs[i]).bind _ = _; rw [qt]; rfl)
      rw [this] at k; exact k.elim
    | ok b =>
    intro F4 H4 a4
    have f4 : F4 D = none := a4.out D f3 (by rw [a3.h _ _ h2]; simp)
    cases b with
    | false =>
      show i + 1 ≤ xs.length ∧ _
      refine ⟨hlt, F4, acc, vs, S3.step a4, (a2.trans a3).trans a4, (x2.trans a3.f).trans a4.f, f4, a4.h _ _ (a3.h _ _ h2), Reps.mono (a3.trans a4).f _ _ r2, by omega, fun ys h => ?_, fun c h => ?_, fun h => ?_⟩
      · exact q1 ys (by show (tst xs[i]).bind _ = _; rw [qt]; exact h)
      · exact q2 c (by show (tst xs[i]).bind _ = _; rw [qt]; exact h)
      · exact q3 (by show (tst xs[i]).bind _ = _; rw [qt]; exact h)
    | true =>
      show te σ' H4 _
      refine he xs[i] F0 H0 F4 H4 σ' _ (S'.step a4) ?_
      cases qe : el xs[i] with
      | exc c => exact fun _ _ _ => trivial
      | stuck =>
        have := q3 (by show (tst xs[i]).bind _ = _; rw [qt]; show (el xs[i]).bind _ = _; rw [qe]; rfl)
        rw [this] at k; exact k.elim
      | ok y =>
      intro w F5 H5 a5 r5
      have f5 : F5 D = none := a5.out D f4 (by rw [a4.h _ _ (a3.h _ _ h2)]; simp)
      have h5 : H5 D = some (.lst vs) := a5.h _ _ (a4.h _ _ (a3.h _ _ h2))
      have ad := ((a2.trans a3).trans a4).trans a5
      refine ⟨vs, h5, by rw [sizeLine_eq, ← r2.length, List.length_map]; omega, hlt, F5, acc ++ [y], vs ++ [w], ((S3.step a4).step a5).updN f5 hD0 hne, ⟨ad.f, fun a u q => ?_, fun a u q => ?_, ad.out⟩,
        ((x2.trans a3.f).trans a4.f).trans a5.f, f5, upd_same, ?_, by rw [List.length_append]; simp; omega, fun ys h => ?_, fun c h => ?_, fun h => ?_⟩
      · rw [upd_ne (ne_of_none q hDH)]; exact ad.h a u q
      · rw [upd_ne (ne_of_none q f5)]; exact ad.in_ a u q
      · rw [List.map_append]
        exact Reps.append (Reps.mono ((a3.trans a4).trans a5).f _ _ r2) (Reps.one r5)
      · rw [q1 (y :: ys) (by show (tst xs[i]).bind _ = _; rw [qt]; show (el xs[i]).bind _ = _; rw [qe]; show (compL tst el _).bind _ = _; rw [h]; rfl)]
        rw [List.append_assoc]; rfl
      · exact q2 c (by show (tst xs[i]).bind _ = _; rw [qt]; show (el xs[i]).bind _ = _; rw [qe]; show (compL tst el _).bind _ = _; rw [h]; rfl)
      · exact q3 (by show (tst xs[i]).bind _ = _; rw [qt]; show (el xs[i]).bind _ = _; rw [qe]; show (compL tst el _).bind _ = _; rw [h]; rfl)
  · have e : xs.drop i = [] := List.drop_of_length_le (by omega)
    rw [e] at q1
    have := q1 [] rfl
    rw [List.append_nil] at this
    rw [this] at k
    exact .inl ⟨js.stop i H2 (x2.trans a2.in_) (by rw [hn]; omega), k D vs F2 H2 a2 hDH f2 h2 r2⟩
theorem et_yes : EvT K W env tYes (.ok true) := fun F0 H0 F H σ Q S k => k F H (Adv.refl S.ex)

/-! ### built-in defs -/
theorem cx_len : CrX K (fun xs H Q => ∃ p ys, xs = [.ref p] ∧ (SqL K H p ys ∨ SqT K H p ys) ∧ Q (.int ys.length) H) (fun (p : List α × Unit) => .ok (p.1.length : Int)) := fun F H x vs Q e r k => by
  obtain ⟨v, r1, rfl, ⟨a, ws, rfl, hl, hr⟩, h2⟩ := r
  cases (show r1 = [] from h2)
  refine ⟨a, ws, rfl, .inl (sq_ex e hl), ?_⟩
  rw [← hr.length, List.length_map]
  exact k _ F H (Adv.refl e) rfl
theorem cx_abs : CrX K (fun xs H Q => ∃ i, xs = [.int i] ∧ Q (.int (if i < 0 then -i else i)) H) (fun (p : Int × Unit) => .ok (p.1.natAbs : Int)) := fun F H x vs Q e r k => by
  obtain ⟨v, r1, rfl, h1, h2⟩ := r
  cases (show r1 = [] from h2); cases (show v = V.int x.1 from h1)
  refine ⟨x.1, rfl, ?_⟩
  have q : (if x.1 < 0 then -x.1 else x.1) = (x.1.natAbs : Int) := by split <;> omega
  rw [q]
  exact k _ F H (Adv.refl e) rfl
theorem cx_int : CrX K (fun xs H Q => (∃ i, xs = [.int i] ∧ Q (.int i) H) ∨ ∃ k, xs = [.bl k] ∧ Q (.int (if k then 1 else 0)) H) (fun (p : Int × Unit) => .ok p.1) := fun F H x vs Q e r k => by
  obtain ⟨v, r1, rfl, h1, h2⟩ := r
  cases (show r1 = [] from h2); cases (show v = V.int x.1 from h1)
  exact .inl ⟨x.1, rfl, k _ F H (Adv.refl e) rfl⟩
/-- the greatest, the least of a list that is not empty -/
def lmax : List Int → Int
  | [] => 0
  | x :: r => r.foldl max x
def lmin : List Int → Int
  | [] => 0
  | x :: r => r.foldl min x
theorem cx_all : CrX K (rAll K) (fun (p : List Bool × Unit) => .ok (p.1.all id)) := fun F H x vs Q e r k => by
  obtain ⟨v, r1, rfl, ⟨a, ws, rfl, hl, hr⟩, h2⟩ := r
  cases (show r1 = [] from h2)
  have e2 : ws = x.1.map V.bl := Reps.bls hr
  subst e2
  exact ⟨a, x.1, rfl, sq_ex e hl, k _ F H (Adv.refl e) rfl⟩
/-- list(xs): a new list -/
theorem en_list {m : Res (List α)} (h : EvX K W env te m) : EvN K W env (tCB (fun xs H Q => ∃ p ys, xs = [V.ref p] ∧ (SqL K H p ys ∨ SqT K H p ys) ∧ ∀ l, H l = none → Q (.ref l) (upd H l (.lst ys))) (tCons te tNil)) m := fun F0 H0 F H σ Q S k => by
  refine h F0 H0 F H σ _ S ?_
  cases m with
  | ok xs =>
    intro v F1 H1 a r
    obtain ⟨p, vs, rfl, h1, h2⟩ := r
    exact ⟨p, vs, rfl, .inl (sq_ex a.in_ h1), fun l hl => k l vs F1 _ (a.trans (Adv.newO a.in_ hl)) (Evl.fresh_back a.h hl) (none_of_ex a.in_ hl) upd_same h2⟩
  | exc c => exact k
  | stuck => exact k.elim
/-! ### isinstance of data -/
def tyName : D → String
  | .non => "NoneType" | .bl _ => "bool" | .int _ => "int" | .str _ => "str" | .ty _ => "type" | .tup _ => "tuple" | .lst _ => "list" | .obj _ _ _ => "object" | .ro _ => "list" | .dct _ _ => "dict"
def D.plain : D → Bool
  | .ty _ => false | .obj _ _ _ => false | .ro _ => false | _ => true
theorem tyx_of {x : D} {v : V} (h : Rep K F x v) (e : Ex F H) (p : x.plain = true) : TyX K H v (.type (tyName x)) := by
  cases x with
  | non => rw [show v = V.non from h]; exact .base .non
  | bl b => rw [show v = V.bl b from h]; exact .base (.bl b)
  | int b => rw [show v = V.int b from h]; exact .base (.int b)
  | str b => rw [show v = V.str b from h]; exact .base (.str b)
  | ty b => cases p
  | obj c ks ds => cases p
  | ro ds => cases p
  | dct ks ds =>
    obtain ⟨a, vs, rfl, hl, _⟩ := h
    exact .base (.dK (e _ _ hl))
  | lst ds =>
    obtain ⟨a, vs, rfl, hl, _⟩ := h
    rcases sq_ex e hl with (q | ⟨o, q⟩) | ⟨o, its, n, q1, q2, _⟩
    · exact .base (.lst q)
    · exact .base (.frz q)
    · exact .kList q1 q2
  | tup ds =>
    obtain ⟨a, vs, rfl, hl, _⟩ := h
    rcases Evl.ex_t e hl with (q | ⟨o, q⟩) | ⟨o, its, n, q1, q2, _⟩
    · exact .base (.tup q)
    · exact .fTuple q
    · exact .kTuple q1 q2
/-- isinstance(x, T), T a built-in class, x any data but objects -/
def isI (n : String) (x : D) : Bool := tyName x == n || (n == "int" && tyName x == "bool")
def isiOk (n : String) : Prop := kitB "NoneType" n = some ("NoneType" == n) ∧ kitB "bool" n = some ("bool" == n || n == "int") ∧ kitB "int" n = some ("int" == n) ∧ kitB "str" n = some ("str" == n) ∧ kitB "tuple" n = some ("tuple" == n) ∧ kitB "list" n = some ("list" == n) ∧ kitB "dict" n = some ("dict" == n)
theorem ev_isi {n : String} {m : Res α} (hn : isiOk n) (h : EvX K W env te m) : EvX K W env (tCB (rIsi K) (tCons te (tCons (tC (.ty n)) tNil))) (m.bind fun x => .need ((toD x).plain = true) (.ok (isI n (toD x)))) := fun F0 H0 F H σ Q S k => by
  refine h F0 H0 F H σ _ S (KE.cut S.ex k fun x v F1 H1 e1 a1 r1 k1 => ?_)
  by_cases c : (toD x).plain = true
  · rw [Res.need_pos c] at k1
    refine ⟨v, .ty n, _, _, isI n (toD x), rfl, .ty n, tyx_of r1 a1.in_ c, ?_, k1 _ F1 H1 (Adv.refl a1.in_) rfl⟩
    refine kit_ty ?_
    obtain ⟨h1, h2, h3, h4, h5, h6, h7⟩ := hn
    revert c
    generalize toD x = y
    intro c
    cases y with
    | non => rw [show tyName .non = "NoneType" from rfl, h1]; simp [isI, tyName]
    | bl b => rw [show tyName (.bl b) = "bool" from rfl, h2]; simp [isI, tyName]
    | int b => rw [show tyName (.int b) = "int" from rfl, h3]; simp [isI, tyName]
    | str b => rw [show tyName (.str b) = "str" from rfl, h4]; simp [isI, tyName]
    | tup b => rw [show tyName (.tup b) = "tuple" from rfl, h5]; simp [isI, tyName]
    | lst b => rw [show tyName (.lst b) = "list" from rfl, h6]; simp [isI, tyName]
    | ty b => cases c
    | obj a b d => cases c
    | ro a => cases c
    | dct a b => rw [show tyName (.dct a b) = "dict" from rfl, h7]; simp [isI, tyName]
  · rw [Res.need_neg c] at k1; exact k1.elim
theorem isi_int : isiOk "int" := by unfold isiOk; decide +kernel
theorem isi_bool : isiOk "bool" := by unfold isiOk; decide +kernel
theorem isi_list : isiOk "list" := by unfold isiOk; decide +kernel
theorem isi_str : isiOk "str" := by unfold isiOk; decide +kernel

/-! ### errors -/
/-- what a body of a try gives: it falls through, or it hands back -/
inductive Fall (S τ : Type) where
  | go (s : S) | back (x : τ)
instance {S τ : Type} [ToR τ] : ToR (Fall S τ) := ⟨fun K x v H0 F H => match x with | .go _ => True | .back y => ToR.fr K y v H0 F H⟩
instance {S τ : Type} [ToR τ] [DR τ] : DR (Fall S τ) := ⟨fun K x v H0 F H => match x with | .go _ => trivial | .back y => DR.tr K y v H0 F H⟩
instance {S τ : Type} [ToD τ] : ToD (Fall S τ) := ⟨fun x => match x with | .go _ => .obj Str.empty [] [.non] | .back x => ToD.d x⟩
theorem no_go {S : Type} {s : S} {v : V} (h : Rep K F (toD (Fall.go s : Fall S τ)) v) : False := by
  obtain ⟨a, dx, vs, _, _, h3, h4⟩ := h
  obtain ⟨w, r, e, _⟩ := h4
  subst e
  simp at h3
/-- the classes of the errors: which they are, which is under which -/
structure Cls (K : PySem.W.Frag) (cs : List Str) (sub : Str → Str → Bool) : Prop where
  exc : ∀ c ∈ cs, ExcC K (He.ga K c)
  exm : ∀ c ∈ cs, ∀ d ∈ cs, PySem.W.exmOne K (.ref (He.ga K c)) (.ref (He.ga K d)) = some (sub c d)
  kit : ∀ c ∈ cs, ∀ d ∈ cs, PySem.W.kitOne K (.ref (He.ga K c)) (.ref (He.ga K d)) = some (sub c d)
  kiv : ∀ c ∈ cs, PySem.W.kitOne K (.ref (He.ga K c)) (.type "ValueError") = some true
/-- the outcome of: try body, except X -/
def tryR {S τ : Type} (known : Str → Bool) (sub : Str → Bool) (m : Res (Fall S τ)) (rest : S → Res τ) (hd : Str → Res τ) : Res τ := match m with
  | .ok (.go s) => rest s
  | .ok (.back x) => .ok x
  | .exc c => if known c = true then (if sub c = true then hd c else .exc c) else .stuck
  | .stuck => .stuck
theorem Sl.setNone {K : PySem.W.Frag} {F0 H0 F H : Hp} {σ : L2.St} {env : En} (S : Sl K F0 H0 F H σ env) (i : Nat) : Sl K F0 H0 F H (σ.set i none) (env.set i none) := by
  refine ⟨S.adv, fun j sk e => ?_, fun j k xs ys p hjk e1 e2 o1 o2 h1 => ?_, by rw [List.length_set, List.length_set]; exact S.len⟩
  · rcases set_get e with ⟨_, z⟩ | ⟨z, e⟩
    · cases z
    · obtain ⟨w, q1, q2⟩ := S.slot j sk e
      exact ⟨w, by rw [List.getElem?_set_ne z]; exact q1, q2⟩
  · rcases set_get e1 with ⟨_, z⟩ | ⟨z1, e1⟩
    · cases z
    rcases set_get e2 with ⟨_, z⟩ | ⟨z2, e2⟩
    · cases z
    rw [List.getElem?_set_ne z1] at h1
    rw [List.getElem?_set_ne z2]
    exact S.dis j k xs ys p hjk e1 e2 o1 o2 h1
/-- the body falls through by s (envS s, rest s), or hands back; the suite hands back, or falls through to mr -/
theorem blk_tryAs {S : Type} {cs : List Str} {sub : Str → Str → Bool} {x : Str} {i : Nat} {tb : WX → TS} {ts : Addr → Value → Option Addr → TS} {envS : S → En} {m : Res (Fall S τ)} {rest : S → Res τ} {hd : Str → Res τ}
    (L : Lk K W F0 H0 rt PT KP) (hT : PT env) (C : Cls K cs sub) (hx : x ∈ cs)
    (hb : ∀ (W' : WX) (KP' : Res (Fall S τ) → Prop), Lk K W' F0 H0 rt (fun e => EnLe e env) KP' → (∀ s, Blk K F0 H0 KP' Z.nx (envS s) (.ok (.go s))) → Blk K F0 H0 KP' (tb W' Z) env m)
    (hs : ∀ (c : Str) (a : Addr) (nx bk ct : L2.St → Hp → Prop), c ∈ cs → sub c x = true → (∀ env' m', Blk K F0 H0 KP Z.nx (env'.set i none) m' → Blk K F0 H0 KP nx env' m') →
      Blk K F0 H0 KP (ts a (.ref (He.ga K c)) none { nx := nx, rt := rt, bk := bk, ct := ct }) (env.set i (some (.raw (.ref a)))) (hd c))
    (hr : ∀ s, Blk K F0 H0 KP Z.nx (envS s) (rest s)) (hZ : Z.rt = rt := by rfl) :
    Blk K F0 H0 KP (tb (wAs K (.ref (He.ga K x)) i ts W Z) Z) env (tryR (fun c => decide (c ∈ cs)) (fun c => sub c x) m rest hd) := fun F H σ S1 h => by
  subst hZ
  refine hb (wAs K (.ref (He.ga K x)) i ts W Z) (fun r => KP (tryR (fun c => decide (c ∈ cs)) (fun c => sub c x) r rest hd)) ⟨fun y h v F H a r => ?_, fun c F H σ env' h p S' => ?_, L.no⟩ (fun s F H σ S h => hr s F H σ S h) F H σ S1 h
  · cases y with
    | go s => exact (no_go r).elim
    | back y => exact fun q => L.ok y h v F H a r q
  · have h : KP (if decide (c ∈ cs) = true then (if sub c x = true then hd c else .exc c) else .stuck) := h
    by_cases hc : c ∈ cs
    · rw [if_pos (decide_eq_true hc)] at h
      have S2 := S'.weak p
      refine ⟨sub c x, C.exm c hc x hx, fun q a ha => ?_, fun q => ?_⟩
      · rw [if_pos q] at h
        refine hs c a _ _ _ hc q (fun env' m' B F H σ S h => B F H _ (S.setNone i) h) F H _ ?_ h
        refine ⟨S2.adv, fun j sk e => ?_, fun j k xs ys p hjk e1 e2 o1 o2 h1 => ?_, by rw [List.length_set, List.length_set]; exact S2.len⟩
        · rcases set_get e with ⟨rfl, z⟩ | ⟨z, e⟩
          · cases z
            have hi : i < env.length := by
              have h := (List.getElem?_eq_some_iff.mp e).1
              rwa [List.length_set] at h
            exact ⟨_, by rw [List.getElem?_set_self (by rw [S2.len]; exact hi)], rfl⟩
          · obtain ⟨w, q1, q2⟩ := S2.slot j sk e
            exact ⟨w, by rw [List.getElem?_set_ne z]; exact q1, q2⟩
        · rcases set_get e1 with ⟨_, z⟩ | ⟨z1, e1⟩
          · cases z; cases o1
          rcases set_get e2 with ⟨_, z⟩ | ⟨z2, e2⟩
          · cases z; cases o2
          rw [List.getElem?_set_ne z1] at h1
          rw [List.getElem?_set_ne z2]
          exact S2.dis j k xs ys p hjk e1 e2 o1 o2 h1
      · rw [if_neg (by rw [q]; exact Bool.false_ne_true)] at h
        exact L.exc c F H σ env h hT S2
    · rw [if_neg (by simpa using hc)] at h
      exact (L.no h).elim
/-- isinstance(e, C), isinstance(e, (C1, C2)) in the suite -/
def rIsE2 (K : PySem.W.Frag) (a : Addr) (cls : Value) (d : Option Addr) : List V → Hp → VK → Prop := fun xs H Q => ∃ (Dc : Addr) (c : V) (cv : Value) (b : Bool), cls = .ref Dc ∧ d = none ∧ ExcC K Dc ∧ xs = [.ref a, c] ∧ (∀ u, RelV c u → u = cv) ∧ PySem.W.kitOne K (.ref Dc) cv = some b ∧ Q (.bl b) H
theorem call_isE2 {X : Cx} {a : Addr} {cls : Value} {d : Option Addr} {oe : Obj} {pn : List (Addr × Obj)} (hz : Zc cls d oe) (hf : ∃ vs, oe.data = .fields vs) : CallR (X.suite a ((a, oe) :: pn)) (.builtin "isinstance") (rIsE2 X.K a cls d) := by
  intro pins s σ H xs us Q I r h
  obtain ⟨Dc, c, cv, b, rfl, rfl, C, e, k, q, hQ⟩ := h
  exact call_isE (X := X) C hz hf pins s σ H xs us Q I r ⟨c, cv, b, e, k, q, hQ⟩
def rIsET (K : PySem.W.Frag) (a : Addr) (cls : Value) (d : Option Addr) : List V → Hp → VK → Prop := fun xs H Q => ∃ (Dc tp : Addr) (cl : List V) (us : List Value) (b : Bool), cls = .ref Dc ∧ d = none ∧ ExcC K Dc ∧ xs = [.ref a, .ref tp] ∧ H tp = some (.tup cl) ∧ Paired ClsV cl us ∧ PySem.W.kitAny K (.ref Dc) us = some b ∧ Q (.bl b) H
theorem ev_isE {cs : List Str} {sub : Str → Str → Bool} {c x : Str} {i : Nat} {a : Addr} (C : Cls K cs sub) (hc : c ∈ cs) (hx : x ∈ cs) (h : env[i]? = some (some (.raw (.ref a)))) :
    EvX K W env (tCB (rIsE2 K a (.ref (He.ga K c)) none) (tCons (tVar i) (tCons (tC (.ref (He.ga K x))) tNil))) (.ok (sub c x)) := fun F0 H0 F H σ Q S k => by
  obtain ⟨v, e, q⟩ := S.slot i _ h
  cases (show v = V.ref a from q)
  exact ⟨_, e, He.ga K c, .ref (He.ga K x), .ref (He.ga K x), sub c x, rfl, rfl, C.exc c hc, rfl, fun u r => r, C.kit c hc x hx, k _ F H (Adv.refl S.ex) rfl⟩
end

/-! ### a def -/
def enStart (N : List Str) (ds : List D) : En := ds.map (fun x => some (.im x)) ++ List.replicate (N.length - ds.length) none
theorem sl_start {K : PySem.W.Frag} {F H : Hp} {N : List Str} {ds : List D} {vs : List V} (e : Ex F H) (r : Reps K F ds vs) : Sl K F H F H (L2.start N vs) (enStart N ds) := by
  have hl := r.length
  refine ⟨Adv.refl e, fun i sk q => ?_, fun i j xs ys p _ q _ oo _ _ => ?_, by simp [L2.start, enStart, hl]⟩
  · unfold enStart at q
    by_cases c : i < ds.length
    · rw [List.getElem?_append_left (by simpa using c), List.getElem?_map, List.getElem?_eq_getElem c] at q
      cases q
      obtain ⟨v, h1, h2⟩ := r.get (List.getElem?_eq_getElem c)
      refine ⟨v, ?_, h2⟩
      unfold L2.start
      rw [List.getElem?_append_left (by rw [List.length_map]; omega), List.getElem?_map, h1]; rfl
    · rw [List.getElem?_append_right (by simpa using c), List.getElem?_replicate] at q
      split at q <;> cases q
  · unfold enStart at q
    by_cases c : i < ds.length
    · rw [List.getElem?_append_left (by simpa using c), List.getElem?_map, List.getElem?_eq_getElem c] at q
      cases q; cases oo
    · rw [List.getElem?_append_right (by simpa using c), List.getElem?_replicate] at q
      split at q <;> cases q
section
variable {P : Program} {w : World} {K : PySem.W.Frag} {mg : Str → Option Value} {base : Heap} {x qual : Str} {params : Arguments} {body : List Stmt} {scope : Scope} {dvs : List V} {kws : List (Str × V)} {f : Addr} {fd : FuncData}
theorem fn_ok {N ps : List Str} {k : Nat} {β τ : Type} [ToDs β] [ToD τ] [ToR τ] {fM : β → Res τ} (F : FunD K x qual params body scope dvs kws f fd) (S : FnScope N ps scope) (hl : ∀ y : β, (ToDs.ds y).length = ps.length)
    (hbody : ∀ (cdv : Value) (A : Around) (outer : List Env) (s : Shared) (H : Hp) (E : XK), Room k (A.deeper (PyProof.Rows.envOfC qual scope s.heap.objs.size f cdv)) →
      ∃ t, PSs (cxOf (L2.CX P w) P w K mg base N qual scope f cdv A outer s H E) body t ∧
        ∀ (y : β) (F0 H0 : Hp) (Q : VK) (KP : Res τ → Prop), Lk K (fun cls d _ H => E cls d H) F0 H0 Q (fun _ => True) KP → Blk K F0 H0 KP (t { nx := fun _ H' => Q .non H', rt := Q }) (enStart N (ToDs.ds y)) (fM y)) :
    FnOk P w K mg base (L2.CX P w) (k + 1) f fd ps (spM K fM) := by
  refine F.ok S (fun vs H Q E h => ?_) (fun cdv A outer s H vs Q E hr h => ?_)
  · obtain ⟨F, y, _, r, _⟩ := h
    rw [← r.length]; exact hl y
  · obtain ⟨t, h1, h2⟩ := hbody cdv A outer s H E hr
    refine ⟨t, h1, ?_⟩
    obtain ⟨F, y, e, r, q⟩ := h
    refine h2 y F H Q (fun r => KE K (fun cls d _ H => E cls d H) F H [] Q r) ⟨fun z h v F' H' a r _ => h v F' H' a r, fun c F' H' σ env h _ S' => h F' H' S'.adv, fun z => z⟩ F H _ (sl_start e r) q
end
end Mi
set_option maxHeartbeats 1000000
namespace Mi
open PySem PySem.Spec L2
open Evl (Ex)
abbrev W0 (E : XK) : WX := fun cls d _ H => E cls d H
theorem need_mild {α : Type} {p : Prop} {x : α} {c : Str} (h : Res.need p (.ok x) = .exc c) : False := by
  by_cases q : p
  · rw [Res.need_pos q] at h; cases h
  · rw [Res.need_neg q] at h; cases h
/-! what a value of any kind is taken for -/
def D.asInt : D → Res Int
  | .int i => .ok i
  | _ => .stuck
def D.asBool : D → Res Bool
  | .bl i => .ok i
  | _ => .stuck
def D.asStr : D → Res Str
  | .str i => .ok i
  | _ => .stuck
def D.asList : D → Res (List D)
  | .lst i => .ok i
  | _ => .stuck
def D.asTu : D → Res (Tu D)
  | .tup i => .ok ⟨i⟩
  | _ => .stuck
def intsOf : List D → Res (List Int)
  | [] => .ok []
  | .int i :: r => (intsOf r).bind fun s => .ok (i :: s)
  | _ :: _ => .stuck
def D.asInts : D → Res (List Int)
  | .lst i => intsOf i
  | _ => .stuck
theorem asInt_ok : ∀ (x : D) (y : Int), x.asInt = .ok y → toD y = x
  | .int i, y, h => by cases h; rfl
theorem asInt_x (x : D) (c : Str) : x.asInt ≠ .exc c := by cases x <;> intro h <;> cases h
theorem asList_ok : ∀ (x : D) (y : List D), x.asList = .ok y → toD y = x
  | .lst i, y, h => by cases h; show D.lst (i.map fun x => x) = _; rw [List.map_id']
theorem asList_x (x : D) (c : Str) : x.asList ≠ .exc c := by cases x <;> intro h <;> cases h
/-- xs[lo:hi] -/
def cutL {α : Type} (xs : List α) (lo hi : Option Int) : List α := (xs.drop (HT.sIx xs.length 0 lo)).take (HT.sIx xs.length xs.length hi - HT.sIx xs.length 0 lo)
section
variable {K : PySem.W.Frag} {W : WX} {F0 H0 F H F' H' F1 : Hp} {rt : VK} {PT : En → Prop} {env env' : En} {α β γ τ : Type} [ToD α] [ToD β] [ToD γ] [ToD τ] [ToR τ] {KP : Res τ → Prop} {te ta tb tc : TE} {tt : TT} {Z : Ends} {t u : TS} {T : L2.St → Hp → Prop} {σ : L2.St}
theorem ev_cast {m : Res D} {f : D → Res α} (hf : ∀ x y, f x = .ok y → toD y = x) (hx : ∀ x c, f x ≠ .exc c) (h : EvX K W env te m) : EvX K W env te (m.bind f) := fun F0 H0 F H σ Q S k => by
  refine h F0 H0 F H σ _ S ?_
  cases m with
  | ok x =>
    intro v F1 H1 a r
    have k : KE K W F H σ Q (f x) := k
    cases e : f x with
    | ok y => rw [e] at k; exact k v F1 H1 a (by rw [hf x y e]; exact r)
    | exc c => exact absurd e (hx x c)
    | stuck => rw [e] at k; exact k.elim
  | exc c => exact k
  | stuck => exact k.elim
/-- what follows first, then the statement -/
theorem blk_with {m1 m : Res τ} {env1 : En} (h1 : Blk K F0 H0 KP Z.nx env1 m1) (h2 : Blk K F0 H0 KP Z.nx env1 m1 → Blk K F0 H0 KP (t Z) env m) : Blk K F0 H0 KP (t Z) env m := h2 h1
theorem blk_if2 {m : Res Bool} {a b : Res τ} (L : Lk K W F0 H0 rt PT KP) (hT : PT env) (hc : EvT K W env tt m) (h1 : Blk K F0 H0 KP (t Z) env a) (h2 : Blk K F0 H0 KP (u Z) env b) :
    Blk K F0 H0 KP (tIfS tt t u Z) env (m.bind fun c => cond c a b) := blk_if L hT hc h1 h2
theorem blk_ifj {S : Type} (envS : S → En) (k : S → Res τ) {m : Res Bool} {a b : Res τ} (L : Lk K W F0 H0 rt PT KP) (hT : PT env) (hc : EvT K W env tt m) (hr : ∀ s, Blk K F0 H0 KP Z.nx (envS s) (k s))
    (h1 : (∀ s, Blk K F0 H0 KP Z.nx (envS s) (k s)) → Blk K F0 H0 KP (t Z) env a) (h2 : (∀ s, Blk K F0 H0 KP Z.nx (envS s) (k s)) → Blk K F0 H0 KP (u Z) env b) :
    Blk K F0 H0 KP (tIfS tt t u Z) env (m.bind fun c => cond c a b) := blk_if L hT hc (h1 hr) (h2 hr)
end
/-- try: .. except X as n: .. -/
def tTry (K : PySem.W.Frag) (c : Value) (i : Nat) (ts : Addr → Value → Option Addr → TS) (W : WX) (tb : WX → TS) : TS := fun D σ H => tb (wAs K c i ts W D) D σ H
section
variable {X : Cx} {x n : Str} {i : Nat} {c : Value} {body suite : List Stmt} {b₀ : Stmt} {np pos pos' : Pos} {tb : WX → TS} {ts : Addr → Value → Option Addr → TS} {Wout : WX}
theorem ps_tryW (hs : X.stack = X.env :: X.outer) (hf : X.env.frame = some X.env.locals) (hN : X.N.Nodup) (hi : X.N[i]? = some n) (hln : X.env.kindOf n = some .local) (hc : Names X x c) (tk : Takes X Wout)
    (hb : ∀ (W : WX) (pn : List (Addr × Obj)) (xe : Value → Shared → Prop), Takes (X.tr pn xe) W → PassesOwn (model X.prog X.w) X.A X.env xe → PSs (X.tr pn xe) body (tb W))
    (hsu : ∀ (a : Addr) (oe : Obj) (cls : Value) (d : Option Addr) (pn : List (Addr × Obj)), Zc cls d oe → (∃ vs, oe.data = .fields vs) → PSs (X.suite a ((a, oe) :: pn)) (b₀ :: suite) (ts a cls d)) :
    PS X (.Try body [.ExceptHandler (some (.Name x np)) (some n) (b₀ :: suite) pos'] [] [] pos) (tTry X.K c i ts Wout tb) := ps_try_as hs hf hN hi hln hc tk hb hsu
end
section
variable {K : PySem.W.Frag} {W : WX} {F0 H0 F H F' H' F1 : Hp} {rt : VK} {PT : En → Prop} {env env' : En} {τ : Type} [ToD τ] [ToR τ] {KP : Res τ → Prop} {Z : Ends}
theorem blk_tryW {S : Type} {cs : List Str} {sub : Str → Str → Bool} {x : Str} {i : Nat} {tb : WX → TS} {ts : Addr → Value → Option Addr → TS} {envS : S → En} {m : Res (Fall S τ)} {rest : S → Res τ} {hd : Str → Res τ}
    (L : Lk K W F0 H0 rt PT KP) (hT : PT env) (C : Cls K cs sub) (hx : x ∈ cs)
    (hb : ∀ (W' : WX) (KP' : Res (Fall S τ) → Prop), Lk K W' F0 H0 rt (fun e => EnLe e env) KP' → (∀ s, Blk K F0 H0 KP' Z.nx (envS s) (.ok (.go s))) → Blk K F0 H0 KP' (tb W' Z) env m)
    (hs : ∀ (c : Str) (a : Addr) (nx bk ct : L2.St → Hp → Prop), c ∈ cs → sub c x = true → (∀ env' m', Blk K F0 H0 KP Z.nx (env'.set i none) m' → Blk K F0 H0 KP nx env' m') →
      Blk K F0 H0 KP (ts a (.ref (He.ga K c)) none { nx := nx, rt := rt, bk := bk, ct := ct }) (env.set i (some (.raw (.ref a)))) (hd c))
    (hr : ∀ s, Blk K F0 H0 KP Z.nx (envS s) (rest s)) (hZ : Z.rt = rt := by rfl) :
    Blk K F0 H0 KP (tTry K (.ref (He.ga K x)) i ts W tb Z) env (tryR (fun c => decide (c ∈ cs)) (fun c => sub c x) m rest hd) := blk_tryAs L hT C hx hb hs hr hZ
end
section
variable {X : Cx}
end

/-! ### the errors' facts, by one Bool -/
def eqOV (a : Option (Option Value)) (b : Value) : Bool := decide (a = some (some b))
def excCB (K : PySem.W.Frag) (C : Addr) : Bool :=
  He.eqO (PySem.W.findIn K (.ref C) "__getattribute__") (some (some (.builtin "BaseException.__getattribute__"))) && (He.eqO (PySem.W.findIn K (.ref C) "__getattr__") (some none) && (decide (PySem.W.subIn K (.ref C) (.type "BaseException") = some true) && (PySem.W.hasDictIn K C &&
    (He.eqO (PySem.W.findIn K (.ref C) "__class__") (some (some (.builtin "object.__class__"))) && (He.eqO (PySem.W.specialIn K (.builtin "object.__class__") "__get__") (some (some (.builtin "getset_descriptor.__get__"))) &&
      (decide (PySem.W.takesIn K (.builtin "object.__class__") = some true) && decide (PySem.W.mroIn K C (.type "object") = some true)))))))
theorem excC_of {K : PySem.W.Frag} {C : Addr} (h : excCB K C = true) : ExcC K C := by
  obtain ⟨h1, h⟩ := He.ba h
  obtain ⟨h2, h⟩ := He.ba h
  obtain ⟨h3, h⟩ := He.ba h
  obtain ⟨h4, h⟩ := He.ba h
  obtain ⟨h5, h⟩ := He.ba h
  obtain ⟨h6, h⟩ := He.ba h
  obtain ⟨h7, h8⟩ := He.ba h
  exact ⟨He.eqO_ok h1, He.eqO_ok h2, of_decide_eq_true h3, h4, He.eqO_ok h5, He.eqO_ok h6, of_decide_eq_true h7, of_decide_eq_true h8⟩
def clsB (K : PySem.W.Frag) (cs : List Str) (sub : Str → Str → Bool) : Bool := cs.all fun c => excCB K (He.ga K c) && ((cs.all fun d => decide (PySem.W.kitOne K (.ref (He.ga K c)) (.ref (He.ga K d)) = some (sub c d)) && decide (PySem.W.exmOne K (.ref (He.ga K c)) (.ref (He.ga K d)) = some (sub c d))) &&
  decide (PySem.W.kitOne K (.ref (He.ga K c)) (.type "ValueError") = some true))
theorem cls_of {K : PySem.W.Frag} {cs : List Str} {sub : Str → Str → Bool} (h : clsB K cs sub = true) : Cls K cs sub := by
  have h1 : ∀ c ∈ cs, _ := fun c hc => He.ba (List.all_eq_true.mp h c hc)
  refine ⟨fun c hc => excC_of (h1 c hc).1, fun c hc d hd => ?_, fun c hc d hd => ?_, fun c hc => ?_⟩
  · exact of_decide_eq_true (He.ba (List.all_eq_true.mp (He.ba (h1 c hc).2).1 d hd)).2
  · exact of_decide_eq_true (He.ba (List.all_eq_true.mp (He.ba (h1 c hc).2).1 d hd)).1
  · exact of_decide_eq_true (He.ba (h1 c hc).2).2
end Mi
set_option maxHeartbeats 1000000
namespace Mi
open PySem PySem.Spec L2
open Evl (Ex)
theorem walk_end {l : PySem.W.OpenLaw} {n k : Nat} {q : Program} {loose : List Str} {XP : (Str → Option Value) → Heap → Prop} {YP : World → Heap → Prop} {d : PySem.DefRec} {x : Str} {m : Ro Int → Res Bool}
    (hn : l.most = some n) (hn2 : n ≤ sizeLine) (hdf : d.params.defaults = []) (hr : Room k PySem.callerA)
    (F : ∀ (w : World) (mg : Str → Option Value) (fa : Addr) (h : Heap), YP w h → h.Ns mainGlobals mg → mg d.name = some (.ref fa) →
      ∃ (K : PySem.W.Frag) (fd : FuncData), K.In h ∧ (∀ (s : Shared) (u : Value), PySem.BindsTo s fd ⟨[u], []⟩ [(x, u)]) ∧
        ∀ base : Heap, K.In base → base.Ns mainGlobals mg → FnOk l.prog w K mg base (L2.CX l.prog w) k fa fd [x] (spM K (fun (p : Ro Int × Unit) => m p.1)))
    (ht : ∀ ns : List Int, ns.length ≤ n → (∀ i ∈ ns, Builtin.Int.intBits i ≤ 1048576) → m ⟨ns⟩ = .ok true) :
    PySem.W.WalkO q loose XP YP l.row.toRowW d [] (fun f vs => PySem.call f vs) := by
  refine Att.attach_callB hn hdf fun w s₀ s₁ mg mb fa o pm cd doc a vs ns G Y ho hd hcd hmg hobj hints hlen hbits hg => ?_
  obtain ⟨K, fd, KX, hb, hF⟩ := F w mg fa _ Y G.T.g hmg
  refine law_call KX G.T.g G.T.b G.T.builtins G.T.nolimit hg hobj hints (Nat.le_trans hlen hn2) hr hF hb (fun H hO hS => ?_) fun H e s' z => ?_
  · refine ⟨H, (⟨ns⟩, ()), Ex.refl H, ⟨.ref a, [], rfl, ⟨a, ns.map V.int, rfl, hS, Reps.of_ints ns⟩, rfl⟩, ?_⟩
    show KE K _ H H [] _ (m ⟨ns⟩)
    rw [ht ns hlen hbits]
    exact fun v F' H' _ r => r
  · obtain ⟨_, _, _, _, _, _, _, _, _, _, _, _, z⟩ := z
    exact z
end Mi
set_option maxHeartbeats 1000000
namespace Mi
open PySem PySem.Spec L2
open Evl (Ex)
abbrev rLenS (K : PySem.W.Frag) : List V → Hp → VK → Prop := fun xs H Q => ∃ p ys, xs = [.ref p] ∧ (SqL K H p ys ∨ SqT K H p ys) ∧ Q (.int ys.length) H
theorem cr_len {X : Cx} {K : PySem.W.Frag} (h : X.K = K) : CallR X (.builtin "len") (rLenS K) := by
  subst h; exact call_len_seq
theorem cr_ixL {X : Cx} {K : PySem.W.Frag} (h : X.K = K) : IxR X (rIxL K) := by
  subst h; exact ix_list
section
variable {K : PySem.W.Frag} {W : WX} {F0 H0 F H F' H' F1 : Hp} {rt : VK} {PT : En → Prop} {env env' : En} {α β γ τ : Type} [ToD α] [ToD β] [ToD γ] [ToD τ] [ToR τ] {KP : Res τ → Prop} {te ta tb tc : TE} {tt : TT} {Z : Ends} {t u : TS} {T : L2.St → Hp → Prop} {σ : L2.St}
/-- the parts of a text of an error -/
def EvJ (K : PySem.W.Frag) (W : WX) (env : En) (ts : List TE) (N : Nat) (m : Res Unit) : Prop :=
  ∀ F0 H0 F H σ acc (Q : Str → Hp → Prop), Sl K F0 H0 F H σ env → acc.length + N ≤ sizeLine → KE K W F H σ (fun _ H' => ∀ out, Q out H') m → tJs ts acc σ H Q
end
end Mi
set_option maxHeartbeats 1000000
namespace Mi
open PySem PySem.Spec L2
open Evl (Ex)

/-! ### own classes: rules with what is raised at the caller's slots -/
section
variable {X : Cx} {CX : CXT} {k : Nat} {f C : Addr} {fd : FuncData} {ps : List Str} {sp : Sp} {E : L2.St → XK} {x m : Str} {p pos apos : Pos} {e o : Expr} {es : List Expr} {ta : TE} {t : TA}
def tMethQ (C : Addr) (m : Str) (sp : Sp) (E : L2.St → XK) (ta : TE) (t : TA) : TE := fun σ H Q => ta σ H fun x H1 => ∃ a dx fs, x = .ref a ∧ H1 a = some (.ins C dx fs) ∧ fs.lookup m = none ∧ t σ H1 fun vs H2 => sp (x :: vs) H2 Q (E σ)
def tMakeQ (C : Addr) (sp : Sp) (E : L2.St → XK) (t : TA) : TE := fun σ H Q => t σ H fun vs H1 => ∀ x dx, H1 x = none → H1 dx = none → dx ≠ x → sp (.ref x :: vs) (upd (upd H1 dx (.own x)) x (.ins C dx [])) (fun v H2 => v = .non ∧ Q (.ref x) H2) (E σ)
end

/-! ### fields by their place -/
def posK (f : Str) : List Str → Option Nat
  | [] => none
  | g :: r => if g = f then some 0 else (posK f r).map (· + 1)
section
variable {K : PySem.W.Frag} {W : WX} {F0 H0 F H F' H' F1 : Hp} {rt : VK} {PT : En → Prop} {env env' : En} {α β γ τ : Type} [ToD α] [ToD β] [ToD γ] [ToD τ] [ToR τ] {KP : Res τ → Prop} {te ta tb tc : TE} {tt : TT} {Z : Ends} {t u : TS} {T : L2.St → Hp → Prop} {σ : L2.St}
/-- the heap without an object that a def changes -/
def hide (H : Hp) (p : Addr) : Hp := fun q => if q = p then none else H q
theorem hide_ne {H : Hp} {p q : Addr} (h : q ≠ p) : hide H p q = H q := if_neg h
/-- the promise of an __init__ -/
def KIn (K : PySem.W.Frag) (F H : Hp) (p : Addr) (Q : VK) (E : XK) : Res α → Prop
  | .ok x => ∀ F' H', Adv F (hide H p) F' H' → Rep K F' (toD x) (.ref p) → Q .non H'
  | .exc c => ∀ F' H', Adv F (hide H p) F' H' → E (.ref (He.ga K c)) none H'
  | .stuck => False
def spI (K : PySem.W.Frag) (c : Str) {δ : Type} [ToDs δ] (f : δ → Res α) : Sp := fun vs H Q E => ∃ F y p dx ws, vs = .ref p :: ws ∧ Ex F H ∧ F p = none ∧ H p = some (.ins (He.ga K c) dx []) ∧ Reps K F (ToDs.ds y) ws ∧ KIn K F H p Q E (f y)
end
section
variable {P : Program} {w : World} {K : PySem.W.Frag} {mg : Str → Option Value} {base : Heap} {x qual : Str} {params : Arguments} {body : List Stmt} {scope : Scope} {dvs : List V} {kws : List (Str × V)} {f : Addr} {fd : FuncData}
end
end Mi
namespace Mi
open PySem PySem.Spec L2
open Evl (Ex)
structure T5 (α β γ δ ε : Type) where
  a : α
  b : β
  c : γ
  e : δ
  f : ε
structure T6 (α β γ δ ε ζ : Type) where
  a : α
  b : β
  c : γ
  e : δ
  f : ε
  g : ζ
structure T8 (α β γ δ ε ζ η θ : Type) where
  a : α
  b : β
  c : γ
  e : δ
  f : ε
  g : ζ
  h : η
  i : θ
instance {α β γ δ ε : Type} [ToD α] [ToD β] [ToD γ] [ToD δ] [ToD ε] : ToD (T5 α β γ δ ε) := ⟨fun x => .tup [ToD.d x.a, ToD.d x.b, ToD.d x.c, ToD.d x.e, ToD.d x.f]⟩
instance {α β γ δ ε ζ : Type} [ToD α] [ToD β] [ToD γ] [ToD δ] [ToD ε] [ToD ζ] : ToD (T6 α β γ δ ε ζ) := ⟨fun x => .tup [ToD.d x.a, ToD.d x.b, ToD.d x.c, ToD.d x.e, ToD.d x.f, ToD.d x.g]⟩
instance {α β γ δ ε ζ η θ : Type} [ToD α] [ToD β] [ToD γ] [ToD δ] [ToD ε] [ToD ζ] [ToD η] [ToD θ] : ToD (T8 α β γ δ ε ζ η θ) := ⟨fun x => .tup [ToD.d x.a, ToD.d x.b, ToD.d x.c, ToD.d x.e, ToD.d x.f, ToD.d x.g, ToD.d x.h, ToD.d x.i]⟩
def optGet {α : Type} : Option α → Res α
  | some x => .ok x
  | none => .stuck
def D.asT1 : D → Res (T1 D)
  | .tup [a] => .ok ⟨a⟩
  | _ => .stuck
def D.asT2 : D → Res (T2 D D)
  | .tup [a, b] => .ok ⟨a, b⟩
  | _ => .stuck
def D.asT3 : D → Res (T3 D D D)
  | .tup [a, b, c] => .ok ⟨a, b, c⟩
  | _ => .stuck
def D.lenR : D → Res Int
  | .tup xs => .ok (xs.length : Int)
  | .lst xs => .ok (xs.length : Int)
  | _ => .stuck
section
variable {K : PySem.W.Frag} {W : WX} {F0 H0 F H F' H' F1 : Hp} {rt : VK} {PT : En → Prop} {env env' : En} {α β γ τ : Type} [ToD α] [ToD β] [ToD γ] [ToD τ] [ToR τ] {KP : Res τ → Prop} {te ta tb tc : TE} {tt : TT} {Z : Ends} {t u : TS} {T : L2.St → Hp → Prop} {σ : L2.St}
end
end Mi
set_option maxHeartbeats 1000000
namespace Mi
open PySem PySem.Spec L2
open Evl (Ex)
def CPowX (i j : Int) : Prop := 0 ≤ j ∧ (Builtin.Int.intBits i : Int) * j ≤ 2 ^ 27
end Mi
namespace Mi
open PySem PySem.Spec L2
end Mi
set_option maxHeartbeats 1000000
namespace Mi
open PySem PySem.Spec L2
open Evl (Ex)
structure T7 (α β γ δ ε ζ η : Type) where
  a : α
  b : β
  c : γ
  e : δ
  f : ε
  g : ζ
  h : η
instance {α β γ δ ε ζ η : Type} [ToD α] [ToD β] [ToD γ] [ToD δ] [ToD ε] [ToD ζ] [ToD η] : ToD (T7 α β γ δ ε ζ η) := ⟨fun x => .tup [ToD.d x.a, ToD.d x.b, ToD.d x.c, ToD.d x.e, ToD.d x.f, ToD.d x.g, ToD.d x.h]⟩

/-! ### the module's constants -/
def tupB (K : PySem.W.Frag) (a : Addr) : Option (List Value) := match K.lookup a with
  | some o => match o.data with
    | .seq its n => if o.cls = .type "tuple" ∧ its.size ≤ sizeLine then some its.toList else none
    | _ => none
  | none => none
mutual
def repB (K : PySem.W.Frag) : D → Value → Bool
  | .non, u => decide (u = .none)
  | .bl b, u => decide (u = .bool b)
  | .int i, .int j _ => decide (j = i)
  | .str s, .str z _ => decide (z = s)
  | .ty n, u => decide (u = .type n)
  | .tup ds, .ref a => (match tupB K a with
    | some us => repsB K ds us
    | none => false)
  | _, _ => false
def repsB (K : PySem.W.Frag) : List D → List Value → Bool
  | [], us => us.isEmpty
  | d :: ds, u :: us => repB K d u && repsB K ds us
  | _ :: _, [] => false
end
theorem tupB_ok {K : PySem.W.Frag} {a : Addr} {us : List Value} (h : tupB K a = some us) {xs : List V} (r : Vals xs us) (F : Hp) : SqT K F a xs := by
  unfold tupB at h
  split at h
  · rename_i o e
    split at h
    · rename_i its n ed
      split at h
      · rename_i hc
        cases h
        exact .inr ⟨o, its, n, e, hc.1, ed, hc.2, r⟩
      · cases h
    · cases h
  · cases h
mutual
theorem repB_ok {K : PySem.W.Frag} : ∀ (d : D) (u : Value), repB K d u = true → ∃ v, RelV v u ∧ ∀ F, Rep K F d v
  | .non, u, h => ⟨.non, (of_decide_eq_true (show decide (u = Value.none) = true from h) : u = Value.none), fun _ => rfl⟩
  | .bl b, u, h => ⟨.bl b, (of_decide_eq_true (show decide (u = Value.bool b) = true from h) : u = Value.bool b), fun _ => rfl⟩
  | .ty n, u, h => ⟨.ty n, (of_decide_eq_true (show decide (u = Value.type n) = true from h) : u = Value.type n), fun _ => rfl⟩
  | .int i, u, h => by
    cases u with
    | int j t => exact ⟨.int i, ⟨t, by rw [of_decide_eq_true (show decide (j = i) = true from h)]⟩, fun _ => rfl⟩
    | _ => cases h
  | .str s, u, h => by
    cases u with
    | str z t => exact ⟨.str s, ⟨t, by rw [of_decide_eq_true (show decide (z = s) = true from h)]⟩, fun _ => rfl⟩
    | _ => cases h
  | .tup ds, u, h => by
    cases u with
    | ref a =>
      rw [repB] at h
      split at h
      · rename_i us e
        obtain ⟨xs, r, hr⟩ := repsB_ok ds us h
        exact ⟨.ref a, rfl, fun F => ⟨a, xs, rfl, tupB_ok e r F, hr F⟩⟩
      · cases h
    | _ => cases h
  | .lst ds, u, h => by cases u <;> cases h
  | .obj c ks ds, u, h => by cases u <;> cases h
  | .ro ds, u, h => by cases u <;> cases h
  | .dct ks ds, u, h => by cases u <;> cases h
theorem repsB_ok {K : PySem.W.Frag} : ∀ (ds : List D) (us : List Value), repsB K ds us = true → ∃ xs, Vals xs us ∧ ∀ F, Reps K F ds xs
  | [], us, h => by
    cases us with
    | nil => exact ⟨[], .nil, fun _ => rfl⟩
    | cons u us => cases h
  | d :: ds, us, h => by
    cases us with
    | nil => cases h
    | cons u us =>
      rw [repsB] at h
      obtain ⟨h1, h2⟩ := He.ba h
      obtain ⟨v, r, hv⟩ := repB_ok d u h1
      obtain ⟨xs, rs, hx⟩ := repsB_ok ds us h2
      exact ⟨v :: xs, .cons r rs, fun F => ⟨v, xs, rfl, hv F, hx F⟩⟩
end
def conB (K : PySem.W.Frag) (cs : List (Str × D)) : Bool := cs.all fun c => match PySem.W.nsIn K mainGlobals c.1 with
  | some (some u) => repB K c.2 u
  | _ => false
/-- a name of the module that stands for data -/
def ConF (K : PySem.W.Frag) (mg : Str → Option Value) (x : Str) (d : D) : Prop := ∃ u v, mg x = some u ∧ RelV v u ∧ ∀ F, Rep K F d v
theorem con_of {K : PySem.W.Frag} {h : Heap} {mg : Str → Option Value} {cs : List (Str × D)} (X : K.In h) (G : h.Ns mainGlobals mg) (c : conB K cs = true) {x : Str} {d : D} (m : (x, d) ∈ cs) : ConF K mg x d := by
  have q := List.all_eq_true.mp c _ m
  dsimp only at q
  split at q
  · rename_i u e
    obtain ⟨v, r, hv⟩ := repB_ok d u q
    exact ⟨u, v, PySem.W.mg_of X G e, r, hv⟩
  · cases q
section
variable {K : PySem.W.Frag} {mg : Str → Option Value} {x : Str} {d : D}
noncomputable def ConF.u (h : ConF K mg x d) : Value := h.choose
noncomputable def ConF.v (h : ConF K mg x d) : V := h.choose_spec.choose
theorem ConF.m (h : ConF K mg x d) : mg x = some h.u := h.choose_spec.choose_spec.1
theorem ConF.r (h : ConF K mg x d) : RelV h.v h.u := h.choose_spec.choose_spec.2.1
theorem ConF.p (h : ConF K mg x d) (F : Hp) : Rep K F d h.v := h.choose_spec.choose_spec.2.2 F
theorem ev_con {α : Type} [ToD α] {W : WX} {env : En} {z : α} (h : ConF K mg x (toD z)) : EvX K W env (tC h.v) (.ok z) := fun F0 H0 F H σ Q S k => k _ F H (Adv.refl S.ex) (h.p F)
end
/-! ### is True, is False -/
theorem opx_isB {K : PySem.W.Frag} : OpX K rIsB (fun (i j : Bool) => .ok (decide (i = j))) := fun F H x y v u Q e h1 h2 k => by
  cases (show v = V.bl x from h1); cases (show u = V.bl y from h2)
  exact ⟨x, y, rfl, rfl, k _ F H (Adv.refl e) rfl⟩
theorem opx_notB {K : PySem.W.Frag} : OpX K rNotB (fun (i j : Bool) => .ok (!decide (i = j))) := fun F H x y v u Q e h1 h2 k => by
  cases (show v = V.bl x from h1); cases (show u = V.bl y from h2)
  exact ⟨x, y, rfl, rfl, k _ F H (Adv.refl e) rfl⟩
/-! ### lists that are only read -/
section
variable {K : PySem.W.Frag} {W : WX} {F0 H0 F H F' H' F1 : Hp} {env : En} {α β γ : Type} [ToD α] [ToD β] [ToD γ] {te ta tb : TE}
theorem opx_ixR : OpX K (rIxL K) (fun (xs : Ro α) (i : Int) => idx xs.xs i) := fun F H xs i v u Q e h1 h2 k => by
  obtain ⟨a, vs, rfl, hl, hr⟩ := h1
  cases (show u = V.int i from h2)
  dsimp only [idx] at k
  cases q : atI xs.xs i with
  | none => rw [q] at k; exact k.elim
  | some x =>
    rw [q] at k
    obtain ⟨w, hw, rw_⟩ := Reps.at (i := i) hr (x := toD x) (by rw [atI_map, q]; rfl)
    exact ⟨a, vs, i, w, rfl, rfl, Evl.ex_l e hl, hw, k _ F H (Adv.refl e) rw_⟩
theorem cx_lenRo : CrX K (rLenS K) (fun (p : Ro α × Unit) => .ok (p.1.xs.length : Int)) := fun F H x vs Q e r k => by
  obtain ⟨v, rs, rfl, r1, r2⟩ := r
  cases (show rs = [] from r2)
  obtain ⟨a, ws, rfl, hl, hr⟩ := r1
  refine ⟨a, ws, rfl, .inl (Evl.ex_l e hl), ?_⟩
  have := k (.int (x.1.xs.length : Int)) F H (Adv.refl e) rfl
  have l := hr.length
  rw [List.length_map] at l
  rw [← l]; exact this
/-! ### joined and repeated lists -/
theorem en_cat {m1 m2 : Res (List α)} (ha : EvX K W env ta m1) (hb : EvX K W env tb m2) : EvN K W env (tOp rCat ta tb) (m1.bind fun x => m2.bind fun y => .need (x.length + y.length ≤ 16777216) (.ok (x ++ y))) := fun F0 H0 F H σ Q S k => by
  refine ha F0 H0 F H σ _ S ?_
  cases m1 with
  | ok x =>
    intro v F1 H1 a1 r1
    refine hb F0 H0 F1 H1 σ _ (S.step a1) ?_
    cases m2 with
    | ok y =>
      intro u F2 H2 a2 r2
      have k : KN K W F H σ Q (Res.need (x.length + y.length ≤ 16777216) (.ok (x ++ y))) := k
      by_cases c : x.length + y.length ≤ 16777216
      · rw [Res.need_pos c] at k
        obtain ⟨p, vs, rfl, h1, h2⟩ := r1
        obtain ⟨q, ws, rfl, g1, g2⟩ := r2
        have l1 := h2.length
        have l2 := g2.length
        rw [List.length_map] at l1 l2
        refine ⟨p, q, vs, ws, rfl, rfl, a2.h _ _ (a1.in_ _ _ h1), a2.in_ _ _ g1, ?_, fun z hz => ?_⟩
        · rw [← l1, ← l2]; exact c
        · refine k z (vs ++ ws) F2 _ ((a1.trans a2).trans (Adv.newO a2.in_ hz)) (Evl.fresh_back (a1.trans a2).h hz) (none_of_ex a2.in_ hz) upd_same ?_
          rw [List.map_append]
          exact Reps.append (Reps.mono a2.f _ _ h2) g2
      · rw [Res.need_neg c] at k; exact k.elim
    | exc c => exact fun F2 H2 a2 => k F2 H2 (a1.trans a2)
    | stuck => exact k.elim
  | exc c => exact k
  | stuck => exact k.elim
theorem Reps.flat {xs : List D} {vs : List V} (h : Reps K F xs vs) : ∀ n : Nat, Reps K F (List.replicate n xs).flatten (List.replicate n vs).flatten
  | 0 => rfl
  | n + 1 => by
    rw [List.replicate_succ, List.replicate_succ, List.flatten_cons, List.flatten_cons]
    exact Reps.append h (Reps.flat h n)
def RepOk (n : Nat) (k : Int) : Prop := -(2 ^ 63) ≤ k ∧ k < 2 ^ 63 ∧ n * k.toNat ≤ 16777216
end
end Mi
set_option maxHeartbeats 1000000
namespace Mi
open PySem PySem.Spec L2 PyProof.Rows
open Evl (Ex)
/-! ### xs[i] += e -/
def rGetL : V → V → Hp → VK → Prop := fun o i H Q => ∃ p xs k v, o = .ref p ∧ i = .int k ∧ H p = some (.lst xs) ∧ 0 ≤ k ∧ xs[k.toNat]? = some v ∧ Q v H
section
variable {K : PySem.W.Frag} {W : WX} {F0 H0 F H F' H' F1 : Hp} {rt : VK} {PT : En → Prop} {env env' : En} {τ : Type} [ToD τ] [ToR τ] {KP : Res τ → Prop} {te ta tb tc : TE} {Z : Ends}
end
end Mi
set_option maxHeartbeats 1000000
namespace Mi
open PySem PySem.Spec L2
open Evl (Ex)
section
variable {K : PySem.W.Frag}
/-- what holds items -/
class Holds (σ : Type) (α : Type) [ToD α] [ToD σ] where
  xs : σ → List α
  at_ : ∀ (K : PySem.W.Frag) (F H : Hp) (y : σ) (u : V), Ex F H → Rep K F (toD y) u → ∃ p vs, u = .ref p ∧ (SqL K H p vs ∨ SqT K H p vs) ∧ Reps K F ((xs y).map toD) vs
instance {α : Type} [ToD α] : Holds (List α) α := ⟨fun x => x, fun K F H y u e h => by
  obtain ⟨a, vs, rfl, hl, hr⟩ := h
  exact ⟨a, vs, rfl, .inl (sq_ex e hl), hr⟩⟩
instance {α : Type} [ToD α] : Holds (Ro α) α := ⟨fun x => x.xs, fun K F H y u e h => by
  obtain ⟨a, vs, rfl, hl, hr⟩ := h
  exact ⟨a, vs, rfl, .inl (Evl.ex_l e hl), hr⟩⟩
instance {α : Type} [ToD α] : Holds (Tu α) α := ⟨fun x => x.xs, fun K F H y u e h => by
  obtain ⟨a, vs, rfl, hl, hr⟩ := h
  exact ⟨a, vs, rfl, .inr (Evl.ex_t e hl), hr⟩⟩
end
end Mi
set_option maxHeartbeats 1000000
namespace Mi
open PySem PySem.Spec PyProof.Rows L2
open Evl (Ex)
/-! ### a method whose last row is super().__init__(..) -/
structure FnScopeS (N P : List Str) (sc : Scope) : Prop where
  kind : sc.kind = .function
  co : sc.isCoroutine = false
  gen : sc.isGenerator = false
  nd : N.Nodup
  pre : N.take P.length = P
  par : ∀ x ∈ P, sc.names.lookup x = some .local
  nocell : ∀ y ∈ sc.names, y.2 ≠ .cell
  only : ∀ y ∈ sc.names, y.2 = .free → y.1 = ("__class__" : Str)
  sup : sc.names.lookup ("super" : Str) = some .globalImplicit
  cls : sc.names.lookup ("__class__" : Str) = some .free
/-- where it stands -/
structure FunS (K : PySem.W.Frag) (x qual : Str) (params : Arguments) (body : List Stmt) (scope : Scope) (f cc cda D : Addr) (file : Str) (fd : FuncData) : Prop where
  ex : ∃ (oc : Value) (od : Option Addr) (doc pm : Value) (an : Option Addr) (ct : Value) (osl : Array (Option Value)), fd = PySem.W.ksFn x qual params body scope .none .none doc pm an (.ref cda) ct cc ∧ K.lookup f = some ⟨oc, od, .func fd, osl⟩ ∧ PySem.W.codeIn K (.ref cda) qual = true
  kp : PySem.W.keepIn K (.ref f) = true
  code : ∃ (ccl : Value) (cdd : Option Addr) (vs : Array Value) (ccs : Array (Option Value)) (tf : Tok), K.lookup cda = some ⟨ccl, cdd, .fields vs, ccs⟩ ∧ vs[2]? = some (.str file tf)
  cell : ∃ (cl : Value) (cld : Option Addr) (csl : Array (Option Value)), K.lookup cc = some ⟨cl, cld, .cell (some (.ref D)), csl⟩
/-- what super().__init__ of an instance of C, from within D, comes to: g -/
structure SupF (K : PySem.W.Frag) (C D g : Addr) : Prop where
  dcl : ∃ cd, PySem.W.clsIn K D = some cd
  ccl : ∃ cd, PySem.W.clsIn K C = some cd
  sub : PySem.W.mroIn K C (.ref D) = some true
  op : PySem.W.nsIn K cStatics "thirdparty.any" = some none
  mt : PySem.W.ks_superIn K C D "__init__" = some (some (.ref g))
  ty : PySem.W.typeIn K (.ref g) = some (.type "function")
  fi : PySem.W.fnIn K g = true
abbrev envS (qual : Str) (scope : Scope) (L a : Addr) (cda cc : Addr) : Env := PySem.W.ksEnv qual scope L a (.ref cda) cc
def cxS (CX : CXT) (P : Program) (w : World) (K : PySem.W.Frag) (mg : Str → Option Value) (base : Heap) (N : List Str) (qual : Str) (scope : Scope) (f cda cc : Addr) (A : Around) (outer : List Env) (s : Shared) (H : Hp) (E : XK) : Cx where
  prog := P
  w := w
  K := K
  mg := mg
  base := base
  A := A.deeper (envS qual scope s.heap.objs.size f cda cc)
  N := N
  s_0 := s
  H_0 := H
  env := envS qual scope s.heap.objs.size f cda cc
  outer := outer
  stack := envS qual scope s.heap.objs.size f cda cc :: outer
  ex := []
  calm := true
  fn := fun _ => false
  pn := []
  xe := fun e s' => wpAny (model P w) (A.deeper (envS qual scope s.heap.objs.size f cda cc)) (leaving (envS qual scope s.heap.objs.size f cda cc) e) (fun _ s'' => CX outer H s E e s'') (fun e' s'' => CX outer H s E e' s'') s'
/-- rows of a body that runs as such -/
structure PSf (X : Cx) (c : Code) (st : List Stmt) (t : TS) : Prop where
  run : ∀ (pins : List (Addr × Obj)) (s : Shared) (σ : L2.St) (H : Hp) (D : Ends), Inv X pins σ H s → t D σ H → _root_.PySem.wpAt (model X.prog X.w) X.A c (execs st X.env) (SP X pins D) X.xe s
/-- super().__init__(..), the last row -/
def tSuper (C g : Addr) (sp : Sp) (E : XK) (t : TA) : TS := fun D σ H => ∃ p dx fs, σ[0]? = some (some (.ref p)) ∧ H p = some (.ins C dx fs) ∧ t σ H fun vs H1 => sp (.ref p :: vs) H1 (fun _ H2 => D.nx σ H2) E
end Mi
set_option maxHeartbeats 1000000
namespace Mi
open PySem PySem.Spec PyProof.Rows L2
open Evl (Ex)
/-! ### what the head tells -/
abbrev FnC : Type := Option (Str × Str × Arguments × FuncBody × Scope × Addr × List Str × Value × Value × Addr)
/-- a method that says super(): its class, the def's place in it -/
structure SupD where
  cls : Str
  name : Str
  qual : Str
  params : Arguments
  body : List Stmt
  scope : Scope
  file : Str
def SupD.val (d : SupD) : FnC := some (d.name, d.qual, d.params, .stmts d.body, d.scope, mainGlobals, [("__class__" : Str)], .none, .none, builtinsNs)
def SupD.ad (K : PySem.W.Frag) (d : SupD) : Addr := He.ma K (He.ga K d.cls) d.name
def fnC (K : PySem.W.Frag) (a : Addr) : FnC := match K.lookup a with
  | some o => (match o.data with
    | .func fd => some (fd.name, fd.qualname, fd.params, fd.body, fd.scope, fd.globals, fd.closure.map (·.1), fd.defaults, fd.kwdefaults, fd.builtins)
    | _ => none)
  | none => none
def fnData (K : PySem.W.Frag) (a : Addr) : Option FuncData := match K.lookup a with
  | some o => (match o.data with
    | .func fd => some fd
    | _ => none)
  | none => none
def cellB (K : PySem.W.Frag) (c D : Addr) : Bool := match K.lookup c with
  | some o => (match o.data with
    | .cell (some (.ref d)) => d == D
    | _ => false)
  | none => false
def codeB (K : PySem.W.Frag) (c : Addr) (file : Str) : Bool := match K.lookup c with
  | some o => (match o.data with
    | .fields vs => (match (vs[2]? : Option Value) with
      | some (.str z _) => decide (z = file)
      | _ => false)
    | _ => false)
  | none => false
def SupD.ok (K : PySem.W.Frag) (d : SupD) : Bool := PySem.W.keepIn K (.ref (d.ad K)) && (match fnData K (d.ad K) with
  | some fd => PySem.W.codeIn K fd.code d.qual && (match fd.code, fd.closure with
    | .ref c, [(_, cc)] => codeB K c d.file && cellB K cc (He.ga K d.cls)
    | _, _ => false)
  | none => false)
theorem lookO {K : PySem.W.Frag} {a : Addr} {o : Obj} (h : K.lookup a = some o) {dt : Data} (e : o.data = dt) : K.lookup a = some ⟨o.cls, o.dict, dt, o.slots⟩ := by rw [h, ← e]
theorem cellB_ok {K : PySem.W.Frag} {c D : Addr} (h : cellB K c D = true) : ∃ (cl : Value) (cld : Option Addr) (csl : Array (Option Value)), K.lookup c = some ⟨cl, cld, .cell (some (.ref D)), csl⟩ := by
  unfold cellB at h
  split at h
  · rename_i o q
    split at h
    · rename_i d e
      have : d = D := beq_iff_eq.mp h
      subst this
      exact ⟨_, _, _, lookO q e⟩
    · cases h
  · cases h
theorem codeB_ok {K : PySem.W.Frag} {c : Addr} {file : Str} (h : codeB K c file = true) : ∃ (ccl : Value) (cdd : Option Addr) (vs : Array Value) (ccs : Array (Option Value)) (tf : Tok), K.lookup c = some ⟨ccl, cdd, .fields vs, ccs⟩ ∧ vs[2]? = some (.str file tf) := by
  unfold codeB at h
  split at h
  · rename_i o q
    split at h
    · rename_i vs e
      split at h
      · rename_i z t e2
        have : z = file := of_decide_eq_true h
        subst this
        exact ⟨_, _, _, _, _, lookO q e, e2⟩
      · cases h
    · cases h
  · cases h
theorem supD_ok {K : PySem.W.Frag} {d : SupD} (e : fnC K (d.ad K) = d.val) (h : d.ok K = true) : ∃ fd cc cda, FunS K d.name d.qual d.params d.body d.scope (d.ad K) cc cda (He.ga K d.cls) d.file fd := by
  unfold SupD.ok at h
  obtain ⟨kp, h⟩ := He.ba h
  split at h
  · rename_i fd q
    obtain ⟨hc, h⟩ := He.ba h
    unfold fnData at q
    split at q
    · rename_i o lk
      split at q
      · rename_i fd' e1
        cases q
        unfold fnC at e
        rw [lk] at e
        dsimp only at e
        rw [e1] at e
        split at h
        · rename_i c y cc e2 e3
          obtain ⟨h1, h2⟩ := He.ba h
          obtain ⟨n1, n2, n3, n4, n5, n6, n7, n8, n9, n10, n11, n12, n13, n14, n15⟩ := fd
          dsimp only at e2 e3 hc
          subst e2 e3
          unfold SupD.val at e
          simp only [Option.some.injEq, Prod.mk.injEq, List.map_cons, List.map_nil, List.cons.injEq, and_true] at e
          obtain ⟨r1, r2, r3, r4, r5, r6, r7, r8, r9, r10⟩ := e
          subst r1 r2 r3 r4 r5 r6 r7 r8 r9 r10
          exact ⟨_, cc, c, ⟨_, _, _, _, _, _, _, rfl, lookO lk e1, hc⟩, kp, codeB_ok h1, cellB_ok h2⟩
        · cases h
      · cases q
    · cases q
  · cases h
/-- super().__init__ of an instance of c within D: which def -/
def supB (K : PySem.W.Frag) (c D g : Str) : Bool := (PySem.W.clsIn K (He.ga K D)).isSome && ((PySem.W.clsIn K (He.ga K c)).isSome && (decide (PySem.W.mroIn K (He.ga K c) (.ref (He.ga K D)) = some true) && (He.eqO (PySem.W.nsIn K cStatics "thirdparty.any") (some none) &&
  (He.eqO (PySem.W.ks_superIn K (He.ga K c) (He.ga K D) "__init__") (some (some (.ref (He.ma K (He.ga K g) "__init__")))) && (decide (PySem.W.typeIn K (.ref (He.ma K (He.ga K g) "__init__")) = some (.type "function")) && PySem.W.fnIn K (He.ma K (He.ga K g) "__init__"))))))
/-! ### dicts of the top with text keys -/
def tabB (K : PySem.W.Frag) (a : Addr) (kvs : List (Str × D)) : Bool := kvs.all fun q => match PySem.W.nsIn K a q.1 with
  | some (some u) => repB K q.2 u
  | _ => false
/-- a name of the module that stands for such a dict -/
structure TabF (K : PySem.W.Frag) (w : World) (mg : Str → Option Value) (x : Str) (kvs : List (Str × D)) : Prop where
  m : mg x = some (.ref (He.ga K x))
  d : ∃ es n, KDict K w (He.ga K x) es n
  hit : ∀ z d, kvs.lookup z = some d → ∃ u v, PySem.W.nsIn K (He.ga K x) z = some (some u) ∧ RelV v u ∧ ∀ F, Rep K F d v
  miss : ∀ z, kvs.lookup z = none → PySem.W.nsIn K (He.ga K x) z = some none
/-! ### the hook -/
abbrev AlY : Type := He.AlT × Bool × List FnC
def asY (g : Addr → Option Obj) (n : Nat) : List Addr := He.asD g n ++ [cStatics]
def obsY (n : Nat) (fa : List He.Fa) (fn : List He.DefD) (ts : List He.Tab) (ss : List SupD) (ex : PySem.W.Frag → Bool) (g : Addr → Option Obj) : AlY :=
  (He.obsT fa fn ts (He.frT g (asY g n)), ex (He.frT g (asY g n)) && ss.all (SupD.ok (He.frT g (asY g n))), ss.map fun d => fnC (He.frT g (asY g n)) (d.ad (He.frT g (asY g n))))
def valY (fn : List He.DefD) (ts : List He.Tab) (ss : List SupD) (w : World) : AlY := (He.valT fn ts w, true, ss.map SupD.val)
structure SaysY (fa : List He.Fa) (fn : List He.DefD) (ts : List He.Tab) (ss : List SupD) (ex : PySem.W.Frag → Bool) (w : World) (K : PySem.W.Frag) : Prop where
  t : He.SaysT fa fn ts w K
  more : ex K = true
  sup : ∀ d ∈ ss, ∃ fd cc cda, FunS K d.name d.qual d.params d.body d.scope (d.ad K) cc cda (He.ga K d.cls) d.file fd
theorem saysY_of {n : Nat} {fa : List He.Fa} {fn : List He.DefD} {ts : List He.Tab} {ss : List SupD} {ex : PySem.W.Frag → Bool} {w : World} {h : Heap} (e : obsY n fa fn ts ss ex h.get? = valY fn ts ss w) : SaysY fa fn ts ss ex w (He.frT h.get? (asY h.get? n)) := by
  have e2 : (ex (He.frT h.get? (asY h.get? n)) && ss.all (SupD.ok (He.frT h.get? (asY h.get? n)))) = true := congrArg (fun z : AlY => z.2.1) e
  have e3 : (ss.map fun d => fnC (He.frT h.get? (asY h.get? n)) (d.ad (He.frT h.get? (asY h.get? n)))) = ss.map SupD.val := congrArg (fun z : AlY => z.2.2) e
  obtain ⟨h1, h2⟩ := He.ba e2
  exact ⟨congrArg (fun z : AlY => z.1) e, h1, fun d hd => supD_ok (List.map_inj_left.mp e3 d hd) (List.all_eq_true.mp h2 d hd)⟩
def hookY (n : Nat) (fa : List He.Fa) (fn : List He.DefD) (ts : List He.Tab) (ss : List SupD) (ex : PySem.W.Frag → Bool) : PySem.W.Hook where
  α := AlY
  obs := fun s => obsY n fa fn ts ss ex s.heap.get?
  val := fun w => valY fn ts ss w
  says := fun w h => ∃ K : PySem.W.Frag, K.In h ∧ SaysY fa fn ts ss ex w K
  of := fun _ _ e => ⟨_, He.frT_in, saysY_of e⟩
  keeps := fun _ _ _ ⟨K, hK, c⟩ k => ⟨K, PySem.W.Frag.In.keeps hK k, c⟩
/-! ### a dict of the top, read -/
def dget {α : Type} (kvs : List (Str × α)) (z : Str) : Res α := match kvs.lookup z with
  | some x => .ok x
  | none => .stuck
def din {α : Type} (kvs : List (Str × α)) (z : Str) : Bool := (kvs.lookup z).isSome
abbrev tabD {α : Type} [ToD α] (kvs : List (Str × α)) : List (Str × D) := kvs.map fun p => (p.1, toD p.2)
def rInD (K : PySem.W.Frag) (a : Addr) (neg : Bool) : R2 := fun x y H Q => ∃ (z : Str) (r : Option Value), x = .str z ∧ y = .ref a ∧ PySem.W.nsIn K a z = some r ∧ Q (.bl (if neg then !r.isSome else r.isSome)) H
section
variable {K : PySem.W.Frag} {w : World} {mg : Str → Option Value} {x : Str} {kvs : List (Str × D)}
variable {W : WX} {env : En} {te : TE} {α : Type} [ToD α] {l : List (Str × α)}
end
/-! ### one of two -/
inductive Un (α β : Type) where
  | l (x : α) | r (y : β)
instance {α β : Type} [ToD α] [ToD β] : ToD (Un α β) := ⟨fun u => match u with | .l x => ToD.d x | .r y => ToD.d y⟩
def Un.asL {α β : Type} : Un α β → Res α
  | .l x => .ok x
  | .r _ => .stuck
def Un.asR {α β : Type} : Un α β → Res β
  | .l _ => .stuck
  | .r y => .ok y
section
variable {α β : Type} [ToD α] [ToD β]
end
def orR {α : Type} : Res α → Res α → Res α
  | .stuck, m => m
  | .ok x, _ => .ok x
  | .exc c, _ => .exc c
def tAlt (ta tb : TE) : TE := fun σ H Q => ta σ H Q ∨ tb σ H Q
/-! ### super().__init__ in blocks -/
theorem FunS.bindsN {K : PySem.W.Frag} {x qual : Str} {params : Arguments} {body : List Stmt} {scope : Scope} {f cc cda D : Addr} {file : Str} {fd : FuncData} {ps : List Str} (F : FunS K x qual params body scope f cc cda D file fd)
    (h : ∀ (doc pm : Value) (an : Option Addr) (ct : Value) (us : List Value), us.length = ps.length → bindArgs (PySem.W.ksFn x qual params body scope .none .none doc pm an (.ref cda) ct cc) ⟨us, []⟩ = pure (ps.zip us)) : Binds K fd ps [] := by
  obtain ⟨oc, od, doc, pm, an, ct, osl, rfl, lk, hcd⟩ := F.ex
  exact .all (h doc pm an ct)
section
variable {P : Program} {w : World} {K : PySem.W.Frag} {mg : Str → Option Value} {base : Heap} {x qual file : Str} {params : Arguments} {body : List Stmt} {scope : Scope} {f cc cda D : Addr} {fd : FuncData}
end
/-! ### the head's run, looked at in two pieces -/
section
open PySem.W PySem.Calls PyProof.Rows HandSHeadRun
def RunOb {β : Type} (P : Program) (f : SharedT → β) (M : Nat) (w : World) (v : β) : Prop := ∀ os : OsState, (endF (stepQ (denQ tabQ) P w) M P w os).map f = some v
noncomputable abbrev seeOb (r : OpenRow) (q : Program) (loose : List PySem.Str) (w : World) :=
  fun s : SharedT => (looksF r.prog (boot_heap w.params) s.abs, seenQ q loose (importedModules r.prog.main.body) (fun s => xlAt q [] s && recOk r.toRowW.records s) s.abs)
end
end Mi
set_option maxHeartbeats 1000000
namespace Mi
open PySem PySem.Spec L2
/-! ### a try of several clauses without names; statements that are never reached -/
/-- the outcome of the clauses for an error of class c -/
def pickR {τ : Type} (sub : Str → Str → Bool) (c : Str) : List (Str × Res τ) → Res τ
  | [] => .exc c
  | (x, m) :: r => if sub c x = true then m else pickR sub c r
def tryM {S τ : Type} (known : Str → Bool) (sub : Str → Str → Bool) (m : Res (Fall S τ)) (rest : S → Res τ) (hs : List (Str × Res τ)) : Res τ := match m with
  | .ok (.go s) => rest s
  | .ok (.back x) => .ok x
  | .exc c => if known c = true then pickR sub c hs else .stuck
  | .stuck => .stuck
def tTryM (K : PySem.W.Frag) (l : List (Value × (Addr → Value → Option Addr → TS))) (W : WX) (tb : WX → TS) : TS := fun D σ H => tb (wMany K W D l) D σ H
section
variable {X : Cx} {body : List Stmt} {h₀ : ExceptHandler} {hds : List ExceptHandler} {l : List (Value × (Addr → Value → Option Addr → TS))} {pos : Pos} {tb : WX → TS} {Wout : WX}
end
section
variable {K : PySem.W.Frag} {W : WX} {F0 H0 F H : Hp} {rt : VK} {PT : En → Prop} {env env' : En} {τ : Type} [ToD τ] [ToR τ] {KP : Res τ → Prop} {Z : Ends}
inductive HdB (K : PySem.W.Frag) (F0 H0 : Hp) {τ : Type} (KP : Res τ → Prop) (Z : Ends) (env : En) (cs : List Str) : List (Value × (Addr → Value → Option Addr → TS)) → List (Str × Res τ) → Prop
  | nil : HdB K F0 H0 KP Z env cs [] []
  | cons {x : Str} {ts : Addr → Value → Option Addr → TS} {mh : Res τ} {l : List (Value × (Addr → Value → Option Addr → TS))} {hs : List (Str × Res τ)} (hx : x ∈ cs)
      (hb : ∀ (a : Addr) (cls : Value), Blk K F0 H0 KP (ts a cls none Z) env mh) (r : HdB K F0 H0 KP Z env cs l hs) : HdB K F0 H0 KP Z env cs ((.ref (He.ga K x), ts) :: l) ((x, mh) :: hs)
theorem HdB.go {cs : List Str} {sub : Str → Str → Bool} {c : Str} {σ : L2.St} (L : Lk K W F0 H0 rt PT KP) (hT : PT env) (C : Cls K cs sub) (hc : c ∈ cs) (S2 : Sl K F0 H0 F H σ env) :
    ∀ {l : List (Value × (Addr → Value → Option Addr → TS))} {hs : List (Str × Res τ)}, HdB K F0 H0 KP Z env cs l hs → KP (pickR sub c hs) → wMany K W Z l (.ref (He.ga K c)) none σ H
  | _, _, .nil, h => L.exc c F H σ env h hT S2
  | _, _, .cons (x := x) (mh := mh) (hs := hs) hx hb r, h => by
    have h : KP (if sub c x = true then mh else pickR sub c hs) := h
    refine ⟨sub c x, C.exm c hc x hx, fun q a ha => ?_, fun q => ?_⟩
    · rw [if_pos q] at h
      exact hb a _ F H σ S2 h
    · rw [if_neg (by rw [q]; decide)] at h
      exact HdB.go L hT C hc S2 r h
end
end Mi
set_option maxHeartbeats 1000000
namespace Mi
open PySem PySem.Spec L2
section
variable {K : PySem.W.Frag} {W : WX} {F0 H0 F H F' H' F1 : Hp} {env : En} {α β : Type} [ToD α] [ToD β]
/-- a part of a slice, as the def works it out -/
def KPt (K : PySem.W.Frag) (W : WX) (F H : Hp) (σ : L2.St) (Q : Option Int → Hp → Prop) : Res (Option Int) → Prop
  | .ok o => ∀ F' H', Adv F H F' H' → Q o H'
  | .exc c => ∀ F' H', Adv F H F' H' → W (.ref (He.ga K c)) none σ H'
  | .stuck => False
def EvPt (K : PySem.W.Frag) (W : WX) (env : En) (tp : TO) (m : Res (Option Int)) : Prop := ∀ F0 H0 F H σ Q, Sl K F0 H0 F H σ env → KPt K W F H σ Q m → tp σ H Q
theorem ept_none : EvPt K W env tNoPart (.ok none) := fun F0 H0 F H σ Q S k => k F H (Adv.refl S.ex)
theorem ept_some {te : TE} {m : Res Int} (h : EvX K W env te m) : EvPt K W env (tPart te) (m.bind fun i => .ok (some i)) := fun F0 H0 F H σ Q S k => by
  refine h F0 H0 F H σ _ S ?_
  cases m with
  | ok i =>
    intro v F1 H1 a r
    exact ⟨i, r, k F1 H1 a⟩
  | exc c => exact k
  | stuck => exact k.elim
end
end Mi
set_option maxHeartbeats 4000000
namespace Mi
open PySem PySem.Spec L2
open Evl (Ex)
section
open PySem.W PySem.Calls PyProof.Rows RT
/-- list(reversed(x)), x a list: a new list -/
def tLRev (K : PySem.W.Frag) (te : TE) : TE := fun σ H Q => te σ H fun v H1 => ∃ (a : Addr) (xs : List V), v = .ref a ∧ SqL K H1 a xs ∧ ∀ q, H1 q = none → Q (.ref q) (upd H1 q (.lst xs.reverse))
variable {K : PySem.W.Frag} {W : WX} {env : En} {te : TE} {α : Type} [ToD α]
end
end Mi
set_option maxHeartbeats 1000000
namespace Mi
open PySem PySem.Spec L2
open Evl (Ex)
/-! ### the hook with addresses that are given -/
def lookZ (fa : List He.Fa) (fn : List He.DefD) (ts : List He.Tab) (ss : List SupD) (ex : PySem.W.Frag → Bool) (K : PySem.W.Frag) : AlY :=
  (He.obsT fa fn ts K, ex K && ss.all (SupD.ok K), ss.map fun d => fnC K (d.ad K))
def obsZ (as : List Addr) (fa : List He.Fa) (fn : List He.DefD) (ts : List He.Tab) (ss : List SupD) (ex : PySem.W.Frag → Bool) (g : Addr → Option Obj) : AlY := lookZ fa fn ts ss ex (He.frT g as)
theorem saysZ_of {fa : List He.Fa} {fn : List He.DefD} {ts : List He.Tab} {ss : List SupD} {ex : PySem.W.Frag → Bool} {w : World} {K : PySem.W.Frag} (e : lookZ fa fn ts ss ex K = valY fn ts ss w) : SaysY fa fn ts ss ex w K := by
  have e2 : (ex K && ss.all (SupD.ok K)) = true := congrArg (fun z : AlY => z.2.1) e
  have e3 : (ss.map fun d => fnC K (d.ad K)) = ss.map SupD.val := congrArg (fun z : AlY => z.2.2) e
  obtain ⟨h1, h2⟩ := He.ba e2
  exact ⟨congrArg (fun z : AlY => z.1) e, h1, fun d hd => supD_ok (List.map_inj_left.mp e3 d hd) (List.all_eq_true.mp h2 d hd)⟩
def hookZ (as : List Addr) (fa : List He.Fa) (fn : List He.DefD) (ts : List He.Tab) (ss : List SupD) (ex : PySem.W.Frag → Bool) : PySem.W.Hook where
  α := AlY
  obs := fun s => obsZ as fa fn ts ss ex s.heap.get?
  val := fun w => valY fn ts ss w
  says := fun w h => ∃ K : PySem.W.Frag, K.In h ∧ SaysY fa fn ts ss ex w K
  of := fun _ _ e => ⟨_, He.frT_in, saysZ_of e⟩
  keeps := fun _ _ _ ⟨K, hK, c⟩ k => ⟨K, PySem.W.Frag.In.keeps hK k, c⟩
theorem obsZ_eq {as : List Addr} {fa : List He.Fa} {fn : List He.DefD} {ts : List He.Tab} {ss : List SupD} {ex : PySem.W.Frag → Bool} {g : Addr → Option Obj} {s : Shared} (h : ∀ a, g a = s.heap.get? a) : obsZ as fa fn ts ss ex g = (hookZ as fa fn ts ss ex).obs s := by
  have e : g = s.heap.get? := funext h
  rw [e] <;> rfl
end Mi
set_option maxHeartbeats 1000000
namespace Mi
open PySem PySem.Spec L2
open Evl (Ex)
section
variable {K : PySem.W.Frag} {W : WX} {env : En} {te : TE} {α β : Type} [ToD α] [ToD β]
end
end Mi
set_option maxHeartbeats 1000000
namespace Mi
open PySem PySem.Spec L2
open PyProof.Rows
open Evl (Ex)
/-! ### calls with keywords, and with keyword-only parameters that lack -/
def tCallNS (n m : Nat) (sp : Sp) (gV : List V → List V → List V) (E : L2.St → XK) (t tk : TA) : TE := fun σ H Q => t σ H fun vs H1 => tk σ H1 fun zs H2 => vs.length = n ∧ zs.length = m ∧ sp (gV vs zs) H2 Q (E σ)
section
variable {X : Cx} {CX : CXT} {k n : Nat} {f : Addr} {fd : FuncData} {ps ks : List Str} {sp : Sp} {E : L2.St → XK} {x : Str} {p pos : Pos} {e : Expr} {es : List Expr} {kws : List Keyword} {t tk : TA} {g : List Value → List Value → List Value} {gV : List V → List V → List V}
end
section
variable {K : PySem.W.Frag} {W : WX} {env : En} {te : TE} {α β : Type} [ToD α] [ToD β]
end
/-- a value of any kind read as a pair of integers, or None -/
def D.asP2 : D → Res (Option (T2 Int Int))
  | .non => .ok none
  | .tup [.int x, .int y] => .ok (some ⟨x, y⟩)
  | _ => .stuck
def D.asTI : D → Res (T2 Int Int)
  | .tup [.int x, .int y] => .ok ⟨x, y⟩
  | _ => .stuck
/-! ### min and max of a pair of integers -/
def rMinP (K : PySem.W.Frag) : List V → Hp → VK → Prop := fun vs H Q => ∃ (a : Addr) (i j : Int), vs = [V.ref a] ∧ SqT K H a [.int i, .int j] ∧ Q (.int (min i j)) H
def rMaxP (K : PySem.W.Frag) : List V → Hp → VK → Prop := fun vs H Q => ∃ (a : Addr) (i j : Int), vs = [V.ref a] ∧ SqT K H a [.int i, .int j] ∧ Q (.int (max i j)) H
section
variable {X : Cx}
end
/-! ### max(xs, default=d) -/
def lmax0 (ns : List Int) (d : Int) : Int := match ns with | [] => d | y :: ys => ys.foldl max y
def tMaxD (K : PySem.W.Frag) (t tk : TA) : TE := fun σ H Q => t σ H fun vs H1 => tk σ H1 fun zs H2 => ∃ (a : Addr) (ns : List Int) (d : Int), vs = [V.ref a] ∧ zs = [V.int d] ∧ SqL K H2 a (ns.map V.int) ∧ Q (.int (lmax0 ns d)) H2
section
variable {X : Cx} {p pos : Pos} {e : Expr} {kws : List Keyword} {t tk : TA}
end
end Mi
set_option maxHeartbeats 1000000
namespace Mi
open PySem PySem.Spec L2
open Evl (Ex)
/-! ### two fors in a comprehension, without ifs -/
def compL2 {α β γ : Type} (it : α → Res (List β)) (el : α → β → Res γ) : List α → Res (List γ)
  | [] => .ok []
  | x :: xs => (it x).bind fun ys => (mapL (el x) ys).bind fun zs => (compL2 it el xs).bind fun r => .ok (zs ++ r)
/-- the owned slots of an environment stand in another one, outside of ws -/
def OwnIn (e' e : En) (ws : List Nat) : Prop := ∀ (i : Nat) (sk : Sk), e'[i]? = some (some sk) → sk.own = true → e[i]? = some (some sk) ∧ i ∉ ws
section
variable {K : PySem.W.Frag} {W : WX} {env : En} {te : TE} {α β γ : Type} [ToD α] [ToD β] [ToD γ]
end
end Mi
set_option maxHeartbeats 1000000
namespace Mi
open PySem PySem.Spec L2
open Evl (Ex)
/-! ### an owned list that is read while something flat is worked out -/
class Flat (α : Type) [ToD α] : Prop where
  ok : ∀ (x : α) (K : PySem.W.Frag) (F F' : Hp) (v : V), Rep K F (toD x) v → Rep K F' (toD x) v
instance : Flat Int := ⟨fun _ _ _ _ _ h => h⟩
instance : Flat Bool := ⟨fun _ _ _ _ _ h => h⟩
instance : Flat Str := ⟨fun _ _ _ _ _ h => h⟩
instance : Flat Unit := ⟨fun _ _ _ _ _ h => h⟩
section
variable {K : PySem.W.Frag} {W : WX} {env : En} {te : TE} {α : Type} [ToD α]
end
/-! ### wider tuples, lists of a known length -/
structure Lt2 (α : Type) where
  a : α
  b : α
structure Lt3 (α : Type) where
  a : α
  b : α
  c : α
structure Lt8 (α : Type) where
  a : α
  b : α
  c : α
  e : α
  f : α
  g : α
  h : α
  i : α
instance {α : Type} [ToD α] : ToD (Lt2 α) := ⟨fun x => .lst [ToD.d x.a, ToD.d x.b]⟩
instance {α : Type} [ToD α] : ToD (Lt3 α) := ⟨fun x => .lst [ToD.d x.a, ToD.d x.b, ToD.d x.c]⟩
instance {α : Type} [ToD α] : ToD (Lt8 α) := ⟨fun x => .lst [ToD.d x.a, ToD.d x.b, ToD.d x.c, ToD.d x.e, ToD.d x.f, ToD.d x.g, ToD.d x.h, ToD.d x.i]⟩
def lt2 {α : Type} : List α → Res (Lt2 α)
  | [a, b] => .ok ⟨a, b⟩
  | _ => .stuck
def lt3 {α : Type} : List α → Res (Lt3 α)
  | [a, b, c] => .ok ⟨a, b, c⟩
  | _ => .stuck
def lt8 {α : Type} : List α → Res (Lt8 α)
  | [a, b, c, e, f, g, h, i] => .ok ⟨a, b, c, e, f, g, h, i⟩
  | _ => .stuck
section
variable {α : Type} [ToD α]
end
/-! ### dicts with text keys that a def makes -/
structure Dc (α : Type) where
  kvs : List (Str × α)
instance {α : Type} [ToD α] : ToD (Dc α) := ⟨fun x => .dct (x.kvs.map (·.1)) (x.kvs.map fun p => toD p.2)⟩
def EvPr (K : PySem.W.Frag) (W : WX) (env : En) (trs : List (TE × TE)) (ks : List Str) {β : Type} [ToDs β] (m : Res β) : Prop :=
  ∀ F0 H0 F H σ (Q : List (V × V) → Hp → Prop), Sl K F0 H0 F H σ env → KA K W F H σ (fun vs H' => Q ((ks.map V.str).zip vs) H') m → tPairs trs σ H Q
section
variable {K : PySem.W.Frag} {W : WX} {env : En} {te : TE} {α : Type} [ToD α] {trs : List (TE × TE)} {ks : List Str}
theorem ep_nil : EvPr K W env [] [] (.ok ()) := fun F0 H0 F H σ Q S k => k [] F H (Adv.refl S.ex) rfl
theorem ep_cons {k0 : Str} {δ : Type} [ToDs δ] {m1 : Res α} {m2 : Res δ} (ha : EvX K W env te m1) (hb : EvPr K W env trs ks m2) : EvPr K W env ((tC (.str k0), te) :: trs) (k0 :: ks) (m1.bind fun x => m2.bind fun y => .ok (x, y)) := fun F0 H0 F H σ Q S k => by
  refine ha F0 H0 F H σ _ S ?_
  cases m1 with
  | ok x =>
    intro v F1 H1 a1 r1
    refine hb F0 H0 F1 H1 σ _ (S.step a1) ?_
    cases m2 with
    | ok y => exact fun vs F2 H2 a2 r2 => k (v :: vs) F2 H2 (a1.trans a2) ⟨v, vs, rfl, Rep.mono a2.f _ _ r1, r2⟩
    | exc c => exact fun F2 H2 a2 => k F2 H2 (a1.trans a2)
    | stuck => exact k.elim
  | exc c => exact fun F1 H1 a1 => k F1 H1 a1
  | stuck => exact k.elim
theorem putK_new {κ : Type} [DecidableEq κ] {kvs : List (κ × V)} {k : κ} {v : V} (h : k ∉ kvs.map (·.1)) : putK kvs k v = kvs ++ [(k, v)] := by
  unfold putK
  rw [if_neg]
  intro q
  obtain ⟨p, hp, e⟩ := List.any_eq_true.mp q
  exact h (List.mem_map.mpr ⟨p, hp, of_decide_eq_true e⟩)
theorem mergeK_new : ∀ (more kvs : List (Key × V)), (kvs.map (·.1) ++ more.map (·.1)).Nodup → mergeK kvs more = kvs ++ more
  | [], kvs, _ => (List.append_nil kvs).symm
  | (k, v) :: r, kvs, h => by
    have hk : k ∉ kvs.map (·.1) := fun q => by
      have := (List.nodup_append.mp h).2.2 k q k (by simp)
      exact this rfl
    show mergeK (putK kvs k v) r = _
    rw [putK_new hk, mergeK_new r (kvs ++ [(k, v)]) (by simpa using h), List.append_assoc]
    rfl
theorem zip_kV : ∀ (a : List Str) (b : List V), (a.map V.str).zip b = ((a.map Sum.inr : List Key).zip b).map fun kv => (kV kv.1, kv.2)
  | [], b => rfl
  | x :: a, [] => rfl
  | x :: a, v :: b => congrArg (_ :: ·) (zip_kV a b)
theorem ev_disp {δ : Type} [ToDs δ] {m : Res δ} {f : δ → List α} (ha : EvPr K W env trs ks m) (hf : ∀ y : δ, (f y).map toD = ToDs.ds y) (hn : ks.Nodup) (h15 : ks.length ≤ 15) (hl : ∀ y : δ, (f y).length = ks.length) :
    EvX K W env (tDisp trs) (m.bind fun y => .ok (Dc.mk (ks.zip (f y)))) := fun F0 H0 F H σ Q S k p hp => by
  have a0 := Adv.newO (o := .dK []) S.ex hp
  refine ha F0 H0 F _ σ _ (S.step a0) ?_
  cases m with
  | ok y =>
    intro vs F1 H1 a1 r1
    have hH : H1 p = some (.dK []) := a1.h _ _ upd_same
    have hF : F1 p = none := a1.out p (none_of_ex S.ex hp) (by rw [upd_same]; simp)
    have lv : vs.length = ks.length := by rw [← r1.length, ← hf y, List.length_map]; exact hl y
    have e1 : ∀ (a : List Str) (b : List V), a.length = b.length → ((a.map Sum.inr : List Key).zip b).map (·.1) = a.map Sum.inr := fun a b h => by
      rw [List.map_fst_zip]; simp [h]
    have nd : ((ks.map Sum.inr : List Key)).Nodup := List.pairwise_map.mpr (hn.imp fun h q => h (by injection q))
    have hly := hl y
    refine ⟨hH, (ks.map Sum.inr).zip vs, zip_kV ks vs, by simp [lv, h15], ?_⟩
    rw [mergeK_new _ [] (by rw [List.map_nil, List.nil_append, e1 ks vs lv.symm]; exact nd), List.nil_append]
    have hne : ∀ {a : Addr} {u : HO}, H a = some u → a ≠ p := fun q z => by rw [z, hp] at q; cases q
    have hne1 : ∀ {a : Addr} {u : HO}, F1 a = some u → a ≠ p := fun q z => by rw [z, hF] at q; cases q
    have kk : (ks.zip (f y)).map (·.1) = ks := by rw [List.map_fst_zip]; omega
    have vv : (ks.zip (f y)).map (fun q => toD q.2) = (f y).map toD := by
      rw [show (fun q : Str × α => toD q.2) = toD ∘ Prod.snd from rfl, ← List.map_map, List.map_snd_zip]; omega
    refine k (.ref p) (upd F1 p (.dK ((ks.map Sum.inr).zip vs))) _ ⟨fun a u q => ?_, fun a u q => ?_, fun a u q => ?_, fun a h1 h2 => ?_⟩ ?_
    · have q1 := a1.f _ _ q
      rw [upd_ne (hne1 q1)]; exact q1
    · rw [upd_ne (hne q)]; exact a1.h _ _ (a0.h _ _ q)
    · by_cases z : a = p
      · subst z; rw [upd_same] at q ⊢; exact q
      · rw [upd_ne z] at q ⊢; exact a1.in_ _ _ q
    · have z : a ≠ p := fun z => h2 (by rw [z]; exact hp)
      rw [upd_ne z]; exact a1.out a h1 (by rw [upd_ne z]; exact h2)
    · refine ⟨p, vs, rfl, ?_, ?_, ?_, ?_⟩
      · rw [upd_same]
        show some (HO.dK _) = some (HO.dK ((((ks.zip (f y)).map (·.1)).map Sum.inr).zip vs))
        rw [kk]
      · rw [kk, lv]
      · rw [vv, hf y]
        exact Reps.mono (Ex.new hF) _ _ r1
      · rw [kk]; exact hn
  | exc c => exact fun F1 H1 a1 => k F1 H1 (a0.trans a1)
  | stuck => exact k.elim
/-- a dict of this kind, read -/
def cget {α : Type} (x : Dc α) (z : Str) : Res α := match x.kvs.lookup z with
  | some y => .ok y
  | none => .stuck
end
/-! ### s[i] of a text -/
noncomputable def sidx (x : Str) (i : Int) : Res Str := match atI x.cps.toList i with
  | some c => .need (x.length < 16777216) (.ok ⟨#[c]⟩)
  | none => .stuck
theorem sidx_mild (x : Str) (i : Int) (c : Str) : sidx x i ≠ .exc c := fun h => by
  unfold sidx at h
  split at h
  · by_cases q : x.length < 16777216
    · rw [Res.need_pos q] at h; cases h
    · rw [Res.need_neg q] at h; cases h
  · cases h
theorem opx_ixS {K : PySem.W.Frag} : OpX K rIxS (fun (x : Str) (i : Int) => sidx x i) := fun F H x i v u Q e h1 h2 k => by
  cases (show v = V.str x from h1)
  cases (show u = V.int i from h2)
  have k : KE K (fun _ _ _ _ => False) F H [] Q (sidx x i) := k
  unfold sidx at k
  split at k
  · rename_i c ec
    by_cases q : x.length < 16777216
    · rw [Res.need_pos q] at k
      exact ⟨x, i, c, rfl, rfl, by rw [sizeLine_eq]; omega, ec, k _ F H (Adv.refl e) rfl⟩
    · rw [Res.need_neg q] at k; exact k.elim
  · exact k.elim
/-! ### x.insert(0, e) of an owned list -/
def rInsert : V → List V → Hp → VK → Prop := fun x vs H Q => ∃ (l : Addr) (xs : List V) (i : Int) (y : V), x = .ref l ∧ vs = [.int i, y] ∧ H l = some (.lst xs) ∧ xs.length < sizeLine ∧ 0 ≤ i ∧ i < 2 ^ 63 ∧
    Q .non (upd H l (.lst (xs.take i.toNat ++ [y] ++ xs.drop i.toNat)))
section
variable {K : PySem.W.Frag} {W : WX} {F0 H0 : Hp} {rt : VK} {PT : En → Prop} {τ β : Type} [ToD τ] [ToR τ] [ToD β] {KP : Res τ → Prop} {env : En} {te : TE} {Z : Ends}
end
end Mi
set_option maxHeartbeats 1000000
namespace Mi
open PySem PySem.Spec L2
open Evl (Ex)
/-! ### built-in functions that the module imports -/
def biB (K : PySem.W.Frag) (x : Str) (id : String) : Bool := He.eqO (PySem.W.nsIn K mainGlobals x) (some (some (.builtin id)))
def rSqrt : List V → Hp → VK → Prop := fun xs H Q => ∃ i : Int, xs = [.int i] ∧ 0 ≤ i ∧ i.toNat.log2 ≤ 4000 ∧ Q (.int ((Float64.isqrt i.toNat : Nat) : Int)) H
end Mi
set_option maxHeartbeats 1000000
namespace Mi
open PySem PySem.Spec L2
open Evl (Ex)
/-! ### range(i, j, c), c above 0 -/
def stepN (i j c : Int) : Nat := if i < j then ((j - i - 1) / c + 1).toNat else 0
def pyStep (i j c : Int) : List Int := (List.range (stepN i j c)).map fun (a : Nat) => i + (a : Int) * c
theorem pyStep_len (i j c : Int) : (pyStep i j c).length = stepN i j c := by simp [pyStep]
theorem pyStep_get {i j c : Int} {a : Nat} (h : a < stepN i j c) : (pyStep i j c)[a]? = some (i + (a : Int) * c) := by
  simp [pyStep, h]
theorem rgC_pos {i j c : Int} (ha : -(2 ^ 62) ≤ i) (ha' : i < 2 ^ 62) (hb : -(2 ^ 62) ≤ j) (hb' : j < 2 ^ 62) (h0 : 0 < c) (h1 : c < 1073741824) : RgC i j c (stepN i j c) := by
  have hs : Builtin.Range.rangeSize i j c = (stepN i j c : Nat) := by
    unfold Builtin.Range.rangeSize stepN
    rw [if_pos h0]
    split
    · have : 0 ≤ (j - i - 1) / c := Int.ediv_nonneg (by omega) (by omega)
      omega
    · rfl
  refine ⟨by omega, by omega, ?_, hs⟩
  have hn : (stepN i j c : Int) ≤ 2 ^ 63 - 1 ∧ i + (stepN i j c : Int) * c < 2 ^ 63 := by
    unfold stepN
    split
    · have h2 : 0 ≤ (j - i - 1) / c := Int.ediv_nonneg (by omega) (by omega)
      have h3 : (j - i - 1) / c * c ≤ j - i - 1 := Int.ediv_mul_le _ (by omega)
      have h4 : (j - i - 1) / c ≤ j - i - 1 := Int.ediv_le_self _ (by omega)
      rw [Int.toNat_of_nonneg (by omega), Int.add_mul, Int.one_mul]
      constructor <;> omega
    · constructor
      · decide
      · show i + (0 : Int) * c < _
        rw [Int.zero_mul]; omega
  have hz : 0 ≤ (stepN i j c : Int) * c := Int.mul_nonneg (Int.natCast_nonneg _) (by omega)
  unfold Builtin.Range.small
  rw [hs]
  simp only [Builtin.Range.rangeFitsLong, Bool.and_eq_true, Bool.or_eq_true, decide_eq_true_eq, beq_iff_eq]
  refine ⟨by omega, .inr ?_⟩
  rw [if_pos h0, Bool.and_eq_true, decide_eq_true_eq, decide_eq_true_eq]
  omega
section
variable {K : PySem.W.Frag} {W : WX} {F : Hp} {env : En} {ta tb tc : TE}
theorem js_step {i j c : Int} : JS K F (Itc i c (stepN i j c)) ((pyStep i j c).map toD) := by
  refine ⟨fun a H e h => ?_, fun a H e h => ?_, fun a H v H' F1 e1 e2 h hy => ?_⟩
  · rw [List.length_map, pyStep_len] at h; exact h
  · rw [List.length_map, pyStep_len] at h; exact h
  · rw [List.length_map, pyStep_len] at h
    obtain ⟨e, q⟩ := hy
    subst e q
    refine ⟨F1, .int (i + (a : Int) * c), Adv.refl e2, by rw [List.getElem?_map, pyStep_get h]; rfl, rfl⟩
theorem ei_step {m1 m2 m3 : Res Int} (h1 : EvX K W env ta m1) (h2 : EvX K W env tb m2) (h3 : EvX K W env tc m3) : EvI K W env (iRng3 (tCons ta (tCons tb (tCons tc tNil)))) (m1.bind fun i => m2.bind fun j => m3.bind fun c => .need (okRange i ∧ okRange j ∧ 0 < c ∧ c < 1073741824) (.ok (pyStep i j c))) := fun F0 H0 F H σ R S k => by
  refine h1 F0 H0 F H σ _ S ?_
  cases m1 with
  | ok i =>
    intro v F1 H1 a r
    cases (show v = V.int i from r)
    refine h2 F0 H0 F1 H1 σ _ (S.step a) ?_
    have k : KI K W F H σ R (m2.bind fun j => m3.bind fun c => .need (okRange i ∧ okRange j ∧ 0 < c ∧ c < 1073741824) (.ok (pyStep i j c))) := k
    cases m2 with
    | ok j =>
      intro v F2 H2 a2 r
      cases (show v = V.int j from r)
      have k : KI K W F H σ R (m3.bind fun c => .need (okRange i ∧ okRange j ∧ 0 < c ∧ c < 1073741824) (.ok (pyStep i j c))) := k
      refine h3 F0 H0 F2 H2 σ _ ((S.step a).step a2) ?_
      cases m3 with
      | ok c =>
        intro v F3 H3 a3 r
        cases (show v = V.int c from r)
        have k : KI K W F H σ R (.need (okRange i ∧ okRange j ∧ 0 < c ∧ c < 1073741824) (.ok (pyStep i j c))) := k
        by_cases q : okRange i ∧ okRange j ∧ 0 < c ∧ c < 1073741824
        · rw [Res.need_pos q] at k
          exact ⟨i, j, c, stepN i j c, rfl, rgC_pos q.1.1 q.1.2 q.2.1.1 q.2.1.2 q.2.2.1 q.2.2.2, k _ F3 H3 ((a.trans a2).trans a3) js_step⟩
        · rw [Res.need_neg q] at k; exact k.elim
      | exc c => exact fun F3 H3 a3 => k F3 H3 ((a.trans a2).trans a3)
      | stuck => exact k.elim
    | exc c => exact fun F2 H2 a2 => k F2 H2 (a.trans a2)
    | stuck => exact k.elim
  | exc c => exact k
  | stuck => exact k.elim
end
end Mi
set_option maxHeartbeats 1000000
namespace Mi
open PySem PySem.Spec L2
open Evl (Ex)
/-! ### zip of a list and a tuple -/
def ItzM (K : PySem.W.Frag) (a b : Addr) (n1 n2 : Nat) : It :=
  ⟨fun k G => ∃ (us ws : List V) (u v : V), SqL K G a us ∧ SqT K G b ws ∧ us[k]? = some u ∧ ws[k]? = some v ∧ us.length = n1 ∧ ws.length = n2,
    fun k G r G' => ∃ p u v, r = .ref p ∧ G p = none ∧ G' = upd G p (.tup [u, v]) ∧ (∀ us, SqL K G a us → us[k]? = some u) ∧ ∀ ws, SqT K G b ws → ws[k]? = some v,
    fun k G => ∃ us ws : List V, SqL K G a us ∧ SqT K G b ws ∧ us.length = n1 ∧ ws.length = n2 ∧ (n1 ≤ k ∨ n2 ≤ k)⟩
/-- the cells of such a zip -/
abbrev cellsZ (n : Nat) : List Addr := [n + 4, n + 2, n + 3, n, n + 1]
/-- the heap behind zip(list, tuple) -/
def laidZ (g : Heap) (a b : Addr) : Heap :=
  let n := g.objs.size
  ((((g.push { cls := .type "list_iterator", data := .fields #[.ref a, .int 0 0] }).push { cls := .type "tuple_iterator", data := .fields #[.ref b, .int 0 0] }).push { cls := .type "tuple", data := .seq #[.ref n, .ref (n + 1)] }).push
    { cls := .type "tuple", data := .seq #[.none, .none] }).push { cls := .type "zip", data := .fields #[.none, .bool false, .bool false, .ref (n + 2), .ref (n + 3)] }
def iZipM (K : PySem.W.Frag) (ta : TA) : TI := fun σ H R => ta σ H fun vs G => ∃ a b us ws, vs = [V.ref a, V.ref b] ∧ SqL K G a us ∧ SqT K G b ws ∧ R (ItzM K a b us.length ws.length) G
section
variable {K : PySem.W.Frag} {W : WX} {F : Hp} {env : En} {α β : Type} [ToD α] [ToD β]
end
end Mi
set_option maxHeartbeats 1000000
namespace Mi
open PySem PySem.Spec L2
open Evl (Ex)
/-! ### defs that give a new list -/
structure Nw (α : Type) where
  xs : List α
instance {α : Type} [ToD α] : ToD (Nw α) := ⟨fun z => .lst (z.xs.map ToD.d)⟩
instance {α : Type} : ToR (Nw α) := ⟨fun _ _ v H0 _ _ => ∃ p, v = .ref p ∧ H0 p = none⟩
section
variable {K : PySem.W.Frag} {W : WX} {F0 H0 F H : Hp} {rt : VK} {PT : En → Prop} {env : En} {te : TE} {Z : Ends} {α : Type} [ToD α] {KP : Res (Nw α) → Prop}
def KW (K : PySem.W.Frag) (W : WX) (F H : Hp) (σ : L2.St) (Q : VK) : Res (Nw α) → Prop
  | .ok z => ∀ p F' H', Adv F H F' H' → Rep K F' (toD z) (.ref p) → H p = none → Q (.ref p) H'
  | .exc c => ∀ F' H', Adv F H F' H' → W (.ref (He.ga K c)) none σ H'
  | .stuck => False
def spW (K : PySem.W.Frag) {δ : Type} [ToDs δ] (f : δ → Res (Nw α)) : Sp := fun vs H Q E => ∃ F x, Ex F H ∧ Reps K F (ToDs.ds x) vs ∧ KW K (fun cls d _ H => E cls d H) F H [] Q (f x)
end
section
variable {P : Program} {w : World} {K : PySem.W.Frag} {mg : Str → Option Value} {base : Heap} {x qual : Str} {params : Arguments} {body : List Stmt} {scope : Scope} {dvs : List V} {kws : List (Str × V)} {f : Addr} {fd : FuncData}
end
end Mi
set_option maxHeartbeats 1000000
namespace Mi
open PySem PySem.Spec L2
open Evl (Ex)
/-! ### texts: a walk over the signs, ord, len, +, *, join -/
def chars (x : Str) : List Str := x.cps.toList.map fun c => ⟨#[c]⟩
theorem chars_len (x : Str) : (chars x).length = x.cps.size := by simp [chars]
section
variable {K : PySem.W.Frag} {W : WX} {F : Hp} {env : En} {te to : TE}
theorem js_str (x : Str) : JS K F (Its x) ((chars x).map toD) := by
  have hn : ((chars x).map toD).length = x.cps.size := by rw [List.length_map, chars_len]
  refine ⟨fun i H e hi => ?_, fun i H e hi => ?_, fun i H v H' F1 e1 e2 hi hy => ?_⟩
  · rw [hn] at hi; exact hi
  · rw [hn] at hi; exact hi
  · rw [hn] at hi
    obtain ⟨rfl, c, hc, rfl⟩ := hy
    refine ⟨F1, .str ⟨#[c]⟩, Adv.refl e2, ?_, rfl⟩
    unfold chars
    rw [List.getElem?_map, List.getElem?_map, ← Array.getElem?_toList] at *
    rw [hc]; rfl
theorem ei_str {m : Res Str} (h : EvX K W env te m) : EvI K W env (iStr te) (m.bind fun x => .ok (chars x)) := fun F0 H0 F H σ R S k => by
  refine h F0 H0 F H σ _ S ?_
  cases m with
  | ok x =>
    intro v F1 H1 a r
    cases (show v = V.str x from r)
    exact ⟨x, rfl, k _ F1 H1 a (js_str x)⟩
  | exc c => exact k
  | stuck => exact k.elim
theorem cx_ord : CrX K (fun xs H Q => ∃ x, xs = [V.str x] ∧ x.length = 1 ∧ Q (.int (x.cps.getD 0 0 : Nat)) H) (fun (p : Str × Unit) => .need (p.1.length = 1) (.ok ((p.1.cps.getD 0 0 : Nat) : Int))) := fun F H x vs Q e r k => by
  obtain ⟨v, r1, rfl, h1, h2⟩ := r
  cases (show r1 = [] from h2)
  cases (show v = V.str x.1 from h1)
  dsimp only at k
  by_cases c : x.1.length = 1
  · rw [Res.need_pos c] at k
    exact ⟨x.1, rfl, c, k _ F H (Adv.refl e) rfl⟩
  · rw [Res.need_neg c] at k
    exact k.elim
def rLenT : List V → Hp → VK → Prop := fun xs H Q => ∃ y : Str, xs = [V.str y] ∧ y.length ≤ 16777216 ∧ Q (.int y.length) H
theorem cr_lenT {X : Cx} : CallR X (.builtin "len") rLenT := by
  intro pins s σ H xs us Q I r h
  obtain ⟨y, rfl, hz, q⟩ := h
  exact call_len pins s σ H _ us Q I r ⟨.str y, y.length, rfl, ⟨by rw [sizeLine_eq]; exact hz, rfl⟩, q⟩
theorem cx_lenS : CrX K rLenT (fun (p : Str × Unit) => .need (p.1.length ≤ 16777216) (.ok (p.1.length : Int))) := fun F H x vs Q e r k => by
  obtain ⟨v, r1, rfl, h1, h2⟩ := r
  cases (show r1 = [] from h2)
  cases (show v = V.str x.1 from h1)
  dsimp only at k
  by_cases c : x.1.length ≤ 16777216
  · rw [Res.need_pos c] at k
    exact ⟨x.1, rfl, c, k _ F H (Adv.refl e) rfl⟩
  · rw [Res.need_neg c] at k
    exact k.elim
def rAddT : R2 := fun x y H Q => ∃ i j, x = .str i ∧ y = .str j ∧ i.length + j.length ≤ sizeLine ∧ Q (.str (i ++ j)) H
theorem opx_addT : OpX K rAddT (fun (x y : Str) => .need (x.length + y.length ≤ 16777216) (.ok (x ++ y))) := fun F H x y v u Q e h1 h2 k => by
  dsimp only at k
  by_cases c : x.length + y.length ≤ 16777216
  · rw [Res.need_pos c] at k
    exact ⟨x, y, h1, h2, by rw [sizeLine_eq]; exact c, k _ F H (Adv.refl e) rfl⟩
  · rw [Res.need_neg c] at k
    exact k.elim
def repS (x : Str) (n : Int) : Str := ⟨(List.replicate n.toNat x.cps).foldl (· ++ ·) #[]⟩
def RepT (x : Str) (k : Int) : Prop := -(2 ^ 63) ≤ k ∧ k < 2 ^ 63 ∧ x.length * k.toNat ≤ 16777216
def rRepT : R2 := fun x y H Q => ∃ i k, x = .str i ∧ y = .int k ∧ RepT i k ∧ Q (.str (repS i k)) H
def rJoin (K : PySem.W.Frag) : V → List V → Hp → VK → Prop := fun x xs H Q => ∃ a p, ∃ ys : List Str, x = .str a ∧ xs = [.ref p] ∧ (SqL K H p (ys.map V.str) ∨ SqT K H p (ys.map V.str)) ∧
  (ys.map (·.length)).sum + ys.length * a.length ≤ 16777216 ∧ Q (.str (Txt.join a ys)) H
theorem pe_joinK {X : Cx} (hK : X.K = K) {o e : Expr} {apos pos : Pos} (ho : PE X o to) (he : PE X e te) (hs : starEach [e] X.env = [(false, eval e X.env)] := by rfl) (hbase : attributeBase o "join" X.env (eval o X.env) = eval o X.env := by rfl) (hline : (apos.endLine == pos.line) = true := by rfl) :
    PE X (.Call (.Attribute o "join" apos) [e] [] pos) (tM1 (rJoin K) to te) := by
  subst hK
  exact pe_join ho he hs hbase hline
theorem reps_str : ∀ {ys : List Str} {vs : List V}, Reps K F (ys.map toD) vs → vs = ys.map V.str
  | [], vs, h => h
  | y :: r, vs, h => by
    obtain ⟨v, t, rfl, h1, h2⟩ := h
    rw [show v = V.str y from h1, reps_str h2]; rfl
theorem ev_join {m1 : Res Str} {m2 : Res (List Str)} (h1 : EvX K W env to m1) (h2 : EvX K W env te m2) : EvX K W env (tM1 (rJoin K) to te) (m1.bind fun a => m2.bind fun ys => .need ((ys.map (·.length)).sum + ys.length * a.length ≤ 16777216) (.ok (Txt.join a ys))) := fun F0 H0 F H σ Q S k => by
  refine h1 F0 H0 F H σ _ S (KE.cut S.ex k fun x v F1 H1 e1 a1 r1 k1 => ?_)
  have ev : v = V.str x := r1
  subst ev
  refine ⟨⟨x, rfl⟩, ?_⟩
  refine h2 F0 H0 F1 H1 σ _ (S.step a1) (KE.cut a1.in_ k1 fun ys u F2 H2 e2 a2 r2 k2 => ?_)
  obtain ⟨p, vs, rfl, q1, q2⟩ := r2
  have ev := reps_str q2
  subst ev
  by_cases c : (ys.map (·.length)).sum + ys.length * x.length ≤ 16777216
  · have k2 : KE K W F2 H2 σ Q (Res.need ((ys.map (·.length)).sum + ys.length * x.length ≤ 16777216) (.ok (Txt.join x ys))) := k2
    rw [Res.need_pos c] at k2
    exact ⟨x, p, ys, rfl, rfl, .inl (Evl.ex_l a2.in_ (Evl.sq_of q1)), c, k2 _ F2 H2 (Adv.refl a2.in_) rfl⟩
  · have k2 : KE K W F2 H2 σ Q (Res.need ((ys.map (·.length)).sum + ys.length * x.length ≤ 16777216) (.ok (Txt.join x ys))) := k2
    rw [Res.need_neg c] at k2
    exact k2.elim
theorem cr_listof {X : Cx} (h : X.K = K) : CallR X (.type "list") (fun xs H Q => ∃ p ys, xs = [V.ref p] ∧ (SqL K H p ys ∨ SqT K H p ys) ∧ ∀ l, H l = none → Q (.ref l) (upd H l (.lst ys))) := by
  subst h; exact call_list_of
end
end Mi
set_option maxHeartbeats 1000000
namespace Mi
open PySem PySem.Spec L2
/-- short words for slots -/
abbrev iM {α : Type} [ToD α] (x : α) : Option Sk := some (.im (toD x))
abbrev oW {α : Type} [ToD α] (xs : List α) : Option Sk := some (.ow (xs.map toD))
/-! ### a tuple as the default of a keyword -/
def kwA (p : Str × Option Str) (x : Str) (K : PySem.W.Frag) : Addr := match K.lookup (He.fAd K p) with
  | some ⟨_, _, .func fd, _⟩ => (match fd.kwdefaults with
    | .ref D => (match PySem.W.nsIn K D x with
      | some (some (.ref b)) => b
      | _ => 0)
    | _ => 0)
  | _ => 0
def tupAB (K : PySem.W.Frag) (a : Addr) (vs : List V) : Bool := match K.lookup a with
  | some ⟨.type c, _, .seq its _, _⟩ => decide (c = "tuple") && (decide (its.size ≤ sizeLine) && He.relAll vs its.toList)
  | _ => false
/-! ### list(x) of a list or a tuple of ints -/
def D.asSeq : D → Res (List Int)
  | .lst i => intsOf i
  | .tup i => intsOf i
  | _ => .stuck
section
variable {K : PySem.W.Frag} {W : WX} {env : En} {te : TE}
end
/-! ### for x in reversed(a list) -/
section
open Evl (Ex)
variable {K : PySem.W.Frag} {W : WX} {F : Hp} {env : En} {te : TE} {α : Type} [ToD α]
end
end Mi
set_option maxHeartbeats 1000000
namespace Mi
open PySem PySem.W PySem.Calls PyProof.Rows HandSHeadRun
/-! ### the top in segments: what a piece of it gives within so many steps -/
section
variable (tb : String → Option Builtin) (p : Program) (w : World) (n0 : Nat) (ann : Option Value)
def Gs {α : Type} (B : List Frame) (lv : List Value → List Value) (m : Sem α) (s : Shared) (c : Code) (q : Pos) (n : Nat) (a : α) (s' : Shared) (c' : Code) (q' : Pos) : Prop :=
  ∀ (K : α → Sem Fin) (H : Value → Sem Fin) (N : Nat) (r : Shared), topRun tb p w n0 ann N s' ⟨K a, c', q', B⟩ = some r → topRun tb p w n0 ann (n + N) s ⟨m.wrap K H id lv, c, q, B⟩ = some r
end
section
variable {tb : String → Option Builtin} {p : Program} {w : World} {n0 : Nat} {ann : Option Value} {B : List Frame} {lv : List Value → List Value} {α β : Type} {s s1 s2 : Shared} {c c1 c2 : Code} {q q1 q2 : Pos} {n k : Nat}
theorem Gs.pure {a : α} : Gs tb p w n0 ann B lv (Pure.pure a : Sem α) s c q 0 a s c q := fun K H N r h => by
  rw [Nat.zero_add]; exact h
theorem Gs.mono {m : Sem α} {a : α} (h : Gs tb p w n0 ann B lv m s c q n a s1 c1 q1) (le : n ≤ k) : Gs tb p w n0 ann B lv m s c q k a s1 c1 q1 := fun K H N r hr => by
  have := h K H (N + (k - n)) r (topRun_mono _ _ _ _ _ hr)
  rw [show n + (N + (k - n)) = k + N by omega] at this
  exact this
theorem Gs.bind {m : Sem α} {f : α → Sem β} {a : α} {b : β} (h1 : Gs tb p w n0 ann B lv m s c q n a s1 c1 q1) (h2 : Gs tb p w n0 ann B lv (f a) s1 c1 q1 k b s2 c2 q2) : Gs tb p w n0 ann B lv (m >>= f) s c q (n + k) b s2 c2 q2 := fun K H N r h => by
  rw [Sem.bind_eq_wrap', Sem.wrap_wrap, Nat.add_assoc]
  exact h1 _ _ _ _ (h2 K H N r h)
theorem Gs.keep {m : Sem α} {a : α} {vs : List Value} (h : Gs tb p w n0 ann B (fun l => lv (vs ++ l)) m s c q n a s1 c1 q1) : Gs tb p w n0 ann B lv (m.keep vs) s c q n a s1 c1 q1 := fun K H N r hr => by
  rw [Sem.keep_eq_wrap, Sem.wrap_wrap]
  exact h K H N r hr
theorem step1 {t t' : Thread} {N : Nat} {r : Shared} (h0 : through t = false) (h1 : stepOk n0 ann t = true) (h2 : step (denote tb) p w s t = .go s1 t') (h : topRun tb p w n0 ann N s1 t' = some r) : topRun tb p w n0 ann (1 + N) s t = some r := by
  rw [Nat.add_comm]
  unfold topRun
  rw [h0, h1, h2]
  exact h
theorem Gs.rule {tag : String} : Gs tb p w n0 ann B lv (rule tag) s c q 1 () s c q := fun K H N r h =>
  step1 (by cases B <;> rfl) rfl (by obtain ⟨a, b, d, e, f⟩ := s; rfl) h
theorem Gs.standAt {pos : Pos} : Gs tb p w n0 ann B lv (standAt pos) s c q 1 () s c pos := fun K H N r h =>
  step1 (by cases B <;> rfl) rfl (by obtain ⟨a, b, d, e, f⟩ := s; rfl) h
theorem Gs.loadPart {a : Addr} {part : Option Value} {o : Obj} (ho : s.heap.get? a = some o) : Gs tb p w n0 ann B lv (loadPart a part) s c q 1 o s c q := fun K H N r h =>
  step1 (t' := ⟨K o, c, q, B⟩) (by cases B <;> rfl) rfl (by obtain ⟨a, b, d, e, f⟩ := s; simp only [PySem.loadPart, Sem.wrap, step, ho]; try rfl) h
theorem Gs.alloc {o : Obj} : Gs tb p w n0 ann B lv (alloc o) s c q 1 s.heap.objs.size { s with heap := s.heap.push o } c q := fun K H N r h =>
  step1 (by cases B <;> rfl) rfl (by obtain ⟨a, b, d, e, f⟩ := s; rfl) h
theorem Gs.point : Gs tb p w n0 ann B lv point s c q 1 () s c q := fun K H N r h =>
  step1 (by cases B <;> rfl) rfl (by obtain ⟨a, b, d, e, f⟩ := s; rfl) h
theorem Gs.forIn {x : List α} {f : α → β → Sem (ForInStep β)} {b : β} (h : ∀ y ∈ x, Gs tb p w n0 ann B lv (f y b) s c q n (.yield b) s c q) : Gs tb p w n0 ann B lv (forIn x b f) s c q (n * x.length) b s c q := by
  induction x with
  | nil => rw [List.forIn_nil]; exact Gs.pure
  | cons y r ih =>
    rw [List.forIn_cons, List.length_cons, Nat.mul_succ, Nat.add_comm]
    exact Gs.bind (h y List.mem_cons_self) (ih fun z hz => h z (List.mem_cons_of_mem _ hz))
/-- a piece that the kernel runs -/
theorem Gs.seg {m : Sem α} {res : α → Flow} {f : Flow} {a0 : α} (hB : splitAtGen B = none) (hf : ∀ a, res a = f → a = a0) (h : segRun tb p w n0 ann B.length n s ⟨m.wrap (fun a => .pure (.done (res a))) deadEnd id lv, c, q, B⟩ = some (f, s1, c1, q1)) :
    Gs tb p w n0 ann B lv m s c q n a0 s1 c1 q1 := fun K H N r hr => by
  obtain ⟨a, ha, k⟩ := seg_top (res := res) (K' := K) (H' := H) (gd := id) (lv := lv) hB n s ⟨m.wrap (fun a => .pure (.done (res a))) deadEnd id lv, c, q, B⟩ ⟨m.wrap K H id lv, c, q, B⟩ f s1 c1 q1 ⟨rfl, rfl, .inl ⟨rfl, rfl, m, rfl, rfl⟩⟩ h
  cases hf a ha
  exact k N r hr
end
/-! ### pieces that change nothing -/
def isRet : List Frame → Bool
  | .ret .. :: _ => true
  | _ => false
/-- a step that leaves the state as it is, and the place at the lowest level -/
def roOk (b : Nat) (t : Thread) : Bool := match t.cur with
  | .rule .. | .load .. | .loadIfAlive .. | .point .. | .ask .. | .stack .. | .handled .. | .call .. => true
  | .at .. => !(t.stack.length == b)
  | .pure _ | .raise _ => isRet t.stack && !(t.stack.length == b)
  | _ => false
inductive RoAt (B : List Frame) (c : Code) (q : Pos) : Thread → Prop
  | base (cur : Sem Fin) : RoAt B c q ⟨cur, c, q, B⟩
  | over (cur : Sem Fin) (code : Code) (pos : Pos) (fs : List Frame) (k : Result → Sem Fin) (h : Option Value) (g : Bool) (l kept : List Value) : RoAt B c q ⟨cur, code, pos, fs ++ .ret k h g l c q kept :: B⟩
theorem RoAt.deep {B : List Frame} {c : Code} {q : Pos} {t : Thread} (h : RoAt B c q t) (e : (t.stack.length == B.length) = true) : ∃ cur, t = ⟨cur, c, q, B⟩ := by
  cases h with
  | base cur => exact ⟨cur, rfl⟩
  | over cur code pos fs k h g l kept =>
    exfalso
    have := beq_iff_eq.mp e
    simp at this
    omega
section
variable {den : Code → Sem Fin} {p : Program} {w : World} {B : List Frame} {c : Code} {q : Pos}
theorem roAt_next {s s' : Shared} {t t' : Thread} (A : RoAt B c q t) (h : roOk B.length t = true) (hs : step den p w s t = .go s' t') : s' = s ∧ RoAt B c q t' := by
  obtain ⟨h1, h2, h3, h4, h5⟩ := s
  cases A with
  | base cur =>
    cases cur with
    | rule | point | ask | handled | stack => simp only [step, Step.go.injEq] at hs; obtain ⟨rfl, rfl⟩ := hs; exact ⟨rfl, .base _⟩
    | load a z k =>
      cases e : h1.get? a with
      | none => simp only [step, e] at hs; cases hs
      | some o => simp only [step, e, Step.go.injEq] at hs; obtain ⟨rfl, rfl⟩ := hs; exact ⟨rfl, .base _⟩
    | loadIfAlive a k => simp only [step, Step.go.injEq] at hs; obtain ⟨rfl, rfl⟩ := hs; exact ⟨rfl, .base _⟩
    | call cc hh gg ll kk =>
      simp only [step, Step.go.injEq] at hs; obtain ⟨rfl, rfl⟩ := hs
      exact ⟨rfl, .over _ _ _ [] _ _ _ _ _⟩
    | «at» z k => simp [roOk] at h
    | pure f => simp [roOk] at h
    | raise f => simp [roOk] at h
    | _ => cases h
  | over cur code pos fs k hd g l kept =>
    cases cur with
    | rule | point | ask | handled | stack | «at» => simp only [step, Step.go.injEq] at hs; obtain ⟨rfl, rfl⟩ := hs; exact ⟨rfl, .over ..⟩
    | load a z k =>
      cases e : h1.get? a with
      | none => simp only [step, e] at hs; cases hs
      | some o => simp only [step, e, Step.go.injEq] at hs; obtain ⟨rfl, rfl⟩ := hs; exact ⟨rfl, .over ..⟩
    | loadIfAlive a k => simp only [step, Step.go.injEq] at hs; obtain ⟨rfl, rfl⟩ := hs; exact ⟨rfl, .over ..⟩
    | call cc hh gg ll kk =>
      simp only [step, Step.go.injEq] at hs; obtain ⟨rfl, rfl⟩ := hs
      exact ⟨rfl, .over _ _ _ (_ :: fs) _ _ _ _ _⟩
    | pure f =>
      cases f with
      | done f =>
        cases fs with
        | nil => simp only [step, List.nil_append, Step.go.injEq] at hs; obtain ⟨rfl, rfl⟩ := hs; exact ⟨rfl, .base _⟩
        | cons F fs =>
          cases F with
          | ret => simp only [step, List.cons_append, Step.go.injEq] at hs; obtain ⟨rfl, rfl⟩ := hs; exact ⟨rfl, .over ..⟩
          | gen => simp [roOk, isRet] at h
      | again cc =>
        cases fs with
        | nil => rw [List.nil_append, PySem.W.step_again] at hs; simp only [Step.go.injEq] at hs; obtain ⟨rfl, rfl⟩ := hs; exact ⟨rfl, .over _ _ _ [] _ _ _ _ _⟩
        | cons F fs =>
          cases F with
          | ret => rw [List.cons_append, PySem.W.step_again] at hs; simp only [Step.go.injEq] at hs; obtain ⟨rfl, rfl⟩ := hs; exact ⟨rfl, .over _ _ _ (_ :: fs) _ _ _ _ _⟩
          | gen => simp [roOk, isRet] at h
    | raise f =>
      cases fs with
      | nil => simp only [step, List.nil_append, Step.go.injEq] at hs; obtain ⟨rfl, rfl⟩ := hs; exact ⟨rfl, .base _⟩
      | cons F fs =>
        cases F with
        | ret => simp only [step, List.cons_append, Step.go.injEq] at hs; obtain ⟨rfl, rfl⟩ := hs; exact ⟨rfl, .over ..⟩
        | gen => simp [roOk, isRet] at h
    | _ => cases h
end
section
variable (st : SharedT → Thread → Option (SharedT × Thread)) (n0 : Nat) (ann : Option Value)
def roRun (b : Nat) : Nat → SharedT → Thread → Option Flow
  | 0, _, _ => none
  | m + 1, s, t => match endAt b t with
    | some f => some f
    | none => match roOk b t && stepOk n0 ann t with
      | false => none
      | true => match st s t with
        | some (_, t') => roRun b m s t'
        | none => none
/-- so many steps, to the piece's end -/
def sgRun (b : Nat) : Nat → SharedT → Thread → Option (Flow × SharedT × Code × Pos)
  | 0, _, _ => none
  | m + 1, s, t => match endAt b t with
    | some f => some (f, s, t.code, t.pos)
    | none => match stepOk n0 ann t with
      | false => none
      | true => match st s t with
        | some (s', t') => frS s' fun s' => sgRun b m s' t'
        | none => none
end
section
variable {tb : String → Option Builtin} {p : Program} {w : World} {n0 : Nat} {ann : Option Value} {B : List Frame} {c : Code} {q : Pos}
theorem roRun_ok : ∀ {m : Nat} {s : SharedT} {t : Thread} {f : Flow}, RoAt B c q t → roRun (stepT (denote tb) p w) n0 ann B.length m s t = some f → segRun tb p w n0 ann B.length m s.abs t = some (f, s.abs, c, q)
  | 0, _, _, _, _, h => by cases h
  | m + 1, s, t, f, A, h => by
    unfold roRun at h
    unfold segRun
    cases he : endAt B.length t with
    | some x =>
      rw [he] at h
      cases h
      have e : (t.stack.length == B.length) = true := by
        unfold endAt at he
        split at he
        · assumption
        · cases he
      obtain ⟨cur, rfl⟩ := A.deep e
      rfl
    | none =>
      rw [he] at h
      cases hk : (roOk B.length t && stepOk n0 ann t) with
      | false => rw [hk] at h; cases h
      | true =>
        rw [hk] at h
        obtain ⟨k1, k2⟩ := Bool.and_eq_true_iff.mp hk
        rw [k2]
        cases hs : stepT (denote tb) p w s t with
        | none => rw [hs] at h; cases h
        | some r =>
          obtain ⟨s2, t2⟩ := r
          rw [hs] at h
          have e := stepT_spec hs
          obtain ⟨e1, A2⟩ := roAt_next A k1 e
          rw [e]
          show segRun tb p w n0 ann B.length m s2.abs t2 = _
          rw [e1]
          exact roRun_ok A2 h
theorem sgRun_ok : ∀ {m : Nat} {s s' : SharedT} {t : Thread} {f : Flow} {c' : Code} {q' : Pos} {b : Nat}, sgRun (stepT (denote tb) p w) n0 ann b m s t = some (f, s', c', q') → segRun tb p w n0 ann b m s.abs t = some (f, s'.abs, c', q')
  | 0, _, _, _, _, _, _, _, h => by cases h
  | m + 1, s, s', t, f, c', q', b, h => by
    unfold sgRun at h
    unfold segRun
    cases he : endAt b t with
    | some x => rw [he] at h; cases h; rfl
    | none =>
      rw [he] at h
      cases hk : stepOk n0 ann t with
      | false => rw [hk] at h; cases h
      | true =>
        rw [hk] at h
        cases hs : stepT (denote tb) p w s t with
        | none => rw [hs] at h; cases h
        | some r =>
          obtain ⟨s2, t2⟩ := r
          rw [hs] at h
          have h3 : (frS s2 fun s' => sgRun (stepT (denote tb) p w) n0 ann b m s' t2) = some (f, s', c', q') := h
          rw [frS_eq] at h3
          rw [stepT_spec hs]
          exact sgRun_ok h3
variable {α : Type} {lv : List Value → List Value}
theorem Gs.ro {m : Sem α} {res : α → Flow} {f : Flow} {a0 : α} {n : Nat} {s : SharedT} (hB : splitAtGen B = none) (hf : ∀ a, res a = f → a = a0)
    (h : roRun (stepT (denote tb) p w) n0 ann B.length n s ⟨m.wrap (fun a => .pure (.done (res a))) deadEnd id lv, c, q, B⟩ = some f) : Gs tb p w n0 ann B lv m s.abs c q n a0 s.abs c q :=
  Gs.seg hB hf (roRun_ok (.base _) h)
theorem Gs.sg {m : Sem α} {res : α → Flow} {f : Flow} {a0 : α} {n : Nat} {s s' : SharedT} {c' : Code} {q' : Pos} (hB : splitAtGen B = none) (hf : ∀ a, res a = f → a = a0)
    (h : sgRun (stepT (denote tb) p w) n0 ann B.length n s ⟨m.wrap (fun a => .pure (.done (res a))) deadEnd id lv, c, q, B⟩ = some (f, s', c', q')) : Gs tb p w n0 ann B lv m s.abs c q n a0 s'.abs c' q' :=
  Gs.seg hB hf (sgRun_ok h)
end
end Mi
set_option maxHeartbeats 1000000
namespace Mi
open PySem PySem.W PySem.Calls PyProof.Rows HandSHeadRun
/-! ### storing under keys that are tuples, whatever the hashes -/
section
variable {tb : String → Option Builtin} {p : Program} {w : World} {n0 : Nat} {ann : Option Value} {B : List Frame} {lv : List Value → List Value} {s s' : Shared} {c : Code} {q : Pos} {n F : Nat}
theorem Gs.hold1 {α : Type} {m : Sem α} {x : α} {a : Addr} {c' : Code} {q' : Pos} (h : Gs tb p w n0 ann B (fun l => lv ([.ref a] ++ l)) m s c q n x s' c' q') : Gs tb p w n0 ann B lv (holding [.ref a] m) s c q n x s' c' q' := Gs.keep (vs := [.ref a]) h
theorem Gs.hold2 {α : Type} {m : Sem α} {x : α} {a b : Addr} {c' : Code} {q' : Pos} (h : Gs tb p w n0 ann B (fun l => lv ([.ref a, .ref b] ++ l)) m s c q n x s' c' q') : Gs tb p w n0 ann B lv (holding [.ref a, .ref b] m) s c q n x s' c' q' := Gs.keep (vs := [.ref a, .ref b]) h
theorem Gs.entries {d : Addr} {o : Obj} {es : Array DictEntry} {ep : Nat} {part : Option Value} (ho : s.heap.get? d = some o) (hd : o.data = .dict es ep) : Gs tb p w n0 ann B lv (dictEntries d part) s c q 1 es s c q := by
  unfold dictEntries
  refine Gs.bind (n := 1) (k := 0) (Gs.loadPart ho) ?_
  rw [hd]
  exact Gs.pure
theorem Gs.epoch {d : Addr} {o : Obj} {es : Array DictEntry} {ep : Nat} {part : Option Value} (ho : s.heap.get? d = some o) (hd : o.data = .dict es ep) : Gs tb p w n0 ann B lv (dictEpoch d part) s c q 1 ep s c q := by
  unfold dictEpoch
  refine Gs.bind (n := 1) (k := 0) (Gs.loadPart ho) ?_
  rw [hd]
  exact Gs.pure
/-- what is known of the keys that stand, for a new key at a: quiet, and another -/
structure NewKey (tb : String → Option Builtin) (p : Program) (w : World) (n0 : Nat) (ann : Option Value) (B : List Frame) (lv : List Value → List Value) (s : Shared) (c : Code) (q : Pos) (F : Nat) (ks : List Addr) (a : Addr) : Prop where
  qa : Gs tb p w n0 ann B lv (eqIsQuiet 8 (.ref a)) s c q F true s c q
  qk : ∀ k ∈ ks, Gs tb p w n0 ann B lv (eqIsQuiet 8 (.ref k)) s c q F true s c q
  ne : ∀ k ∈ ks, k ≠ a ∧ Gs tb p w n0 ann B lv (eqBool (.ref k) (.ref a)) s c q F false s c q
theorem Gs.tell {ks : List Addr} {a : Addr} {stored : List Value} (N : NewKey tb p w n0 ann B lv s c q F ks a) (hs : ∀ v ∈ stored, ∃ k ∈ ks, v = .ref k) : Gs tb p w n0 ann B lv (tableMayTell (.ref a) stored) s c q (F + F * stored.length) false s c q := by
  unfold tableMayTell
  split
  · exact (Gs.pure).mono (Nat.zero_le _)
  · refine Gs.bind N.qa ?_
    simp only [Bool.not_true, Bool.false_eq_true, if_false]
    refine Gs.bind (n := F * stored.length) (k := 0) (Gs.forIn (b := (none, ())) fun v hv => ?_) Gs.pure
    obtain ⟨k, hk, rfl⟩ := hs v hv
    refine Gs.bind (n := F) (k := 0) (N.qk k hk) ?_
    simp only [Bool.not_true, Bool.false_eq_true, if_false]
    exact Gs.pure
theorem Gs.find {d a : Addr} {o : Obj} {es : Array DictEntry} {ep : Nat} {ks : List Addr} {h : Int} (ho : s.heap.get? d = some o) (hd : o.data = .dict es ep) (he : ∀ e ∈ es, ∃ k ∈ ks, e.key = .ref k)
    (N : NewKey tb p w n0 ann B (fun l => lv ([.ref a] ++ l)) s c q F ks a) : Gs tb p w n0 ann B lv (dictFind d (.ref a) h) s c q (1 + ((F + F * es.size) + (3 + F) * es.size)) none s c q := by
  have hany : ¬ (es.any fun e => e.key == Value.ref a && e.hash != h) = true := by
    rw [Array.any_eq_true']
    rintro ⟨e, hin, hc⟩
    obtain ⟨k, hk, e1⟩ := he e hin
    have e2 := (Bool.and_eq_true_iff.mp hc).1
    rw [e1] at e2
    have e3 := eq_of_beq e2
    injection e3 with e3
    exact (N.ne k hk).1 e3
  have hst : ∀ v ∈ (placesWithHash es.size (fun i => es[i]?.map (·.hash)) h).filterMap (fun i => es[i]?.map (·.key)), ∃ k ∈ ks, v = .ref k := by
    intro v hv
    obtain ⟨i, _, hi⟩ := List.mem_filterMap.mp hv
    cases hei : es[i]? with
    | none => rw [hei] at hi; cases hi
    | some e =>
      rw [hei] at hi
      obtain rfl : e.key = v := by simpa using hi
      exact he e (Array.mem_of_getElem? hei)
  have hl1 : (placesWithHash es.size (fun i => es[i]?.map (·.hash)) h).length ≤ es.size := by
    unfold placesWithHash
    exact Nat.le_trans (List.length_filter_le _ _) (by simp)
  have hl2 : ((placesWithHash es.size (fun i => es[i]?.map (·.hash)) h).filterMap (fun i => es[i]?.map (·.key))).length ≤ es.size := Nat.le_trans (List.length_filterMap_le _ _) hl1
  unfold dictFind
  refine Gs.hold1 ?_
  refine Gs.bind (Gs.entries ho hd) ?_
  dsimp only
  rw [if_neg (show ¬ ((Value.ref a :: (placesWithHash es.size (fun i => es[i]?.map (·.hash)) h).filterMap (fun i => es[i]?.map (·.key))).all carriedByValue) = true by simp [carriedByValue])]
  rw [if_neg hany]
  have body : ∀ i ∈ placesWithHash es.size (fun i => es[i]?.map (·.hash)) h, ∀ e, es[i]? = some e → ∃ k ∈ ks, e.key = .ref k := fun i _ e q => he e (Array.mem_of_getElem? q)
  by_cases hone : (((placesWithHash es.size (fun i => es[i]?.map (·.hash)) h).filterMap (fun i => es[i]?.map (·.key))) == [Value.ref a]) = true
  all_goals (first | rw [if_pos hone] | rw [if_neg hone])
  all_goals (first | refine Gs.bind (n := F + F * es.size) (k := (3 + F) * es.size) ((Gs.pure (a := false)).mono (Nat.zero_le _)) ?_ | refine Gs.bind (n := F + F * es.size) (k := (3 + F) * es.size) ((Gs.tell N hst).mono (Nat.add_le_add_left (Nat.mul_le_mul_left _ hl2) _)) ?_)
  all_goals
    rw [if_neg (by simp)]
    refine Gs.bind (n := (3 + F) * es.size) (k := 0) ((Gs.forIn (n := 3 + F) (b := (none, none)) fun i hi => ?_).mono (Nat.mul_le_mul_left _ hl1)) Gs.pure
    cases hei : es[i]? with
    | none => exact (Gs.pure).mono (Nat.zero_le _)
    | some e =>
      obtain ⟨k, hk, e1⟩ := body i hi e hei
      dsimp only
      rw [e1]
      split
      · rw [show 3 + F = 1 + (F + (1 + 1)) by omega]
        refine Gs.bind (Gs.epoch ho hd) (Gs.bind (N.ne k hk).2 (Gs.bind (Gs.epoch ho hd) ?_))
        rw [if_neg (by simp), if_neg (by simp)]
        refine Gs.bind (n := 1) (k := 0) Gs.rule ?_
        rw [if_neg (by simp)]
        exact Gs.pure
      · exact (Gs.pure).mono (Nat.zero_le _)
/-- what a value's hash is taken from: some text of a call -/
abbrev refuseH (v : Value) : Sem Value := do rule "hash.unhashable"; raiseError "TypeError" s!"unhashable type: '{← typeNameOf v}'"
abbrev callHash (a : Addr) : Sem (Option Value) := callSpecialIfBoundUnlessNone? (.ref a) "__hash__" (refuseH (.ref a))
theorem Gs.hash {a : Addr} {H : Int} {t : Tok} {s1 : Shared} {c1 : Code} {q1 : Pos} (h1 : Gs tb p w n0 ann B lv (cRoomFor "hash" [.ref a]) s c q F () s c q) (h2 : Gs tb p w n0 ann B lv (specialOf (.ref a) "__hash__") s c q F (some (.builtin "tuple.__hash__")) s c q)
    (h3 : Gs tb p w n0 ann B lv (callHash a) s c q F (some (.int H t)) s1 c1 q1) : Gs tb p w n0 ann B lv (pyHash (.ref a)) s c q (F + (F + (F + (F + 1)))) (reduceHash H) s1 c1 q1 := by
  unfold pyHash
  unfold pyHashByItsType
  refine Gs.bind h1 ?_
  refine Gs.bind h2 ?_
  rw [if_neg (by rw [show ((some (Value.builtin "tuple.__hash__") : Option Value) == some Value.none) = false from rfl]; exact Bool.false_ne_true)]
  refine Gs.bind h2 ?_
  rw [if_neg (by simp)]
  refine Gs.bind h3 ?_
  dsimp only
  unfold pyHashByItsType.reduced reduceHash
  split
  · exact (Gs.pure).mono (Nat.zero_le _)
  · exact Gs.bind (n := 1) (k := 0) Gs.rule Gs.pure
theorem Gs.set {d a b : Addr} {o : Obj} {es : Array DictEntry} {ep : Nat} {ks : List Addr} {H : Int} {t : Tok} {s1 s2 : Shared} {c1 c2 : Code} {q1 q2 : Pos} (h1 : Gs tb p w n0 ann B (fun l => lv ([.ref a, .ref b] ++ l)) (cRoomFor "hash" [.ref a]) s c q F () s c q)
    (h2 : Gs tb p w n0 ann B (fun l => lv ([.ref a, .ref b] ++ l)) (specialOf (.ref a) "__hash__") s c q F (some (.builtin "tuple.__hash__")) s c q) (h3 : Gs tb p w n0 ann B (fun l => lv ([.ref a, .ref b] ++ l)) (callHash a) s c q F (some (.int H t)) s1 c1 q1)
    (ho : s1.heap.get? d = some o) (hd : o.data = .dict es ep) (he : ∀ e ∈ es, ∃ k ∈ ks, e.key = .ref k)
    (N : NewKey tb p w n0 ann B (fun l => lv ([.ref a, .ref b] ++ ([.ref a, .ref b] ++ ([.ref a] ++ l)))) s1 c1 q1 F ks a)
    (up : Gs tb p w n0 ann B (fun l => lv ([.ref a, .ref b] ++ ([.ref a, .ref b] ++ l))) (updateDictKeys d (·.push ⟨reduceHash H, .ref a, .ref b⟩) (keyPart (.ref a))) s1 c1 q1 F () s2 c2 q2) :
    Gs tb p w n0 ann B lv (dictSet d (.ref a) (.ref b)) s c q (F + (F + (F + (F + 1))) + ((1 + ((F + F * es.size) + (3 + F) * es.size)) + (1 + F))) () s2 c2 q2 := by
  unfold dictSet
  refine Gs.hold2 ?_
  refine Gs.bind (Gs.hash h1 h2 h3) ?_
  unfold dictSetHashed
  refine Gs.hold2 ?_
  refine Gs.bind (Gs.find ho hd he N) ?_
  dsimp only
  exact Gs.bind Gs.rule up
end
end Mi
set_option maxHeartbeats 1000000
namespace Mi
open PySem PySem.W PySem.Calls PyProof.Rows HandSHeadRun
/-! ### the same, worked out -/
abbrev fuelT : Nat := 20000
def resU : Unit → Flow := fun _ => .next
def resB : Bool → Flow := fun b => match b with
  | true => .brk
  | false => .cont
def resN : Option Value → Flow := fun o => match o with
  | some (.builtin id) => (match decide (id = "tuple.__hash__") with
    | true => .brk
    | false => .cont)
  | _ => .next
def resV : Option Value → Flow := fun o => match o with
  | some v => .ret v
  | none => .next
def resA : Addr → Flow := fun a => .ret (.ref a)
def resO : Option (List Str) → Flow := fun o => match o with
  | none => .next
  | some _ => .brk
/-- the pairs' addresses -/
def asRefs : List (Value × Value) → List (Nat × Nat) → Bool
  | [], [] => true
  | (.ref a, .ref b) :: r, (x, y) :: t => Nat.beq a x && (Nat.beq b y && asRefs r t)
  | _, _ => false
abbrev refP (x : Nat × Nat) : Value × Value := (.ref x.1, .ref x.2)
def resP (kvs : List (Nat × Nat)) : List (Value × Value) → Flow := fun l => resB (asRefs l kvs)
theorem resA_ok {a d : Addr} (h : resA a = .ret (.ref d)) : a = d := by cases h; rfl
section
variable (st : SharedT → Thread → Option (SharedT × Thread)) (n0 : Nat) (ann : Option Value) (B : List Frame)
def roB {α : Type} (m : Sem α) (res : α → Flow) (lv : List Value → List Value) (s : SharedT) (c : Code) (q : Pos) : Option Flow := roRun st n0 ann B.length fuelT s ⟨m.wrap (fun a => .pure (.done (res a))) deadEnd id lv, c, q, B⟩
def sgB {α : Type} (m : Sem α) (res : α → Flow) (lv : List Value → List Value) (s : SharedT) (c : Code) (q : Pos) : Option (Flow × SharedT × Code × Pos) := sgRun st n0 ann B.length fuelT s ⟨m.wrap (fun a => .pure (.done (res a))) deadEnd id lv, c, q, B⟩
def isBrk : Option Flow → Bool
  | some .brk => true
  | _ => false
def isCont : Option Flow → Bool
  | some .cont => true
  | _ => false
def isNext : Option Flow → Bool
  | some .next => true
  | _ => false
def newB (lv : List Value → List Value) (s : SharedT) (c : Code) (q : Pos) (ks : List Addr) (a : Addr) : Bool :=
  isBrk (roB st n0 ann B (eqIsQuiet 8 (.ref a)) resB lv s c q) && ks.all fun k => isBrk (roB st n0 ann B (eqIsQuiet 8 (.ref k)) resB lv s c q) && (!(Nat.beq k a) && isCont (roB st n0 ann B (eqBool (.ref k) (.ref a)) resB lv s c q))
def keyB (ks : List Addr) (e : DictEntry) : Bool := match e.key with
  | .ref k => ks.any fun x => Nat.beq k x
  | _ => false
def dictB (ks : List Addr) (o : Option Obj) : Bool := match o with
  | some ⟨_, _, .dict es _, _⟩ => es.toList.all (keyB ks) && Nat.ble es.size 16
  | _ => false
def setB (d : Addr) (lv : List Value → List Value) (a b : Addr) (ks : List Addr) (s : SharedT) (c : Code) (q : Pos) : Option (SharedT × Code × Pos) :=
  match isNext (roB st n0 ann B (cRoomFor "hash" [.ref a]) resU (fun l => lv ([.ref a, .ref b] ++ l)) s c q) && isBrk (roB st n0 ann B (specialOf (.ref a) "__hash__") resN (fun l => lv ([.ref a, .ref b] ++ l)) s c q) with
  | false => none
  | true => match sgB st n0 ann B (callHash a) resV (fun l => lv ([.ref a, .ref b] ++ l)) s c q with
    | some (.ret (.int H _), s1, c1, q1) => (match newB st n0 ann B (fun l => lv ([.ref a, .ref b] ++ ([.ref a, .ref b] ++ ([.ref a] ++ l)))) s1 c1 q1 ks a && dictB ks (getT s1 d) with
      | true => (match sgB st n0 ann B (updateDictKeys d (·.push ⟨reduceHash H, .ref a, .ref b⟩) (keyPart (.ref a))) resU (fun l => lv ([.ref a, .ref b] ++ ([.ref a, .ref b] ++ l))) s1 c1 q1 with
        | some (.next, s2, c2, q2) => some (s2, c2, q2)
        | _ => none)
      | false => none)
    | _ => none
def storeB (d : Addr) (lv : List Value → List Value) : List (Nat × Nat) → List Addr → SharedT → Code → Pos → Option (SharedT × Code × Pos)
  | [], _, s, c, q => some (s, c, q)
  | x :: r, ks, s, c, q => match setB st n0 ann B d lv x.1 x.2 ks s c q with
    | some (s1, c1, q1) => storeB d lv r (x.1 :: ks) s1 c1 q1
    | none => none
end
def nSet : Nat := fuelT + (fuelT + (fuelT + (fuelT + 1))) + ((1 + ((fuelT + fuelT * 16) + (3 + fuelT) * 16)) + (1 + fuelT))
section
variable {p : Program} {w : World} {n0 : Nat} {ann : Option Value} {B : List Frame}
abbrev GsT {α : Type} (p : Program) (w : World) (n0 : Nat) (ann : Option Value) (B : List Frame) (lv : List Value → List Value) (m : Sem α) (s : SharedT) (c : Code) (q : Pos) (n : Nat) (a : α) (s' : SharedT) (c' : Code) (q' : Pos) : Prop := Gs treeTable p w n0 ann B lv m s.abs c q n a s'.abs c' q'
theorem sgB_ok {α : Type} {m : Sem α} {res : α → Flow} {lv : List Value → List Value} {s s' : SharedT} {c c' : Code} {q q' : Pos} {f : Flow} {a0 : α} (hB : splitAtGen B = none) (hf : ∀ a, res a = f → a = a0) (h : sgB (stepT (denote treeTable) p w) n0 ann B m res lv s c q = some (f, s', c', q')) :
    GsT p w n0 ann B lv m s c q fuelT a0 s' c' q' := Gs.sg hB hf h
end
end Mi
set_option maxHeartbeats 1000000
namespace Mi
open PySem PySem.W PySem.Calls PyProof.Rows HandSHeadRun
/-! ### the statement -/
def pairsE (env : Env) (pos : Pos) : List Expr → List Expr → List (Sem Value × Sem Value)
  | k :: ks, v :: vs => (eval k env, do let x ← eval v env; standAt pos; pure x) :: pairsE env pos ks vs
  | _, _ => []
structure TurnD where
  pre : List Stmt
  tg : List Expr
  ks : List Expr
  vs : List Expr
  dpos : Pos
  pos : Pos
  post : List Stmt
  kvs : List (Nat × Nat)
def TurnD.stmt (T : TurnD) : Stmt := .Assign T.tg (.Dict (T.ks.map some) T.vs T.dpos) T.pos
abbrev newD : Obj := { cls := .type "dict", data := .dict #[] }
section
variable (st : SharedT → Thread → Option (SharedT × Thread)) (n0 : Nat) (ann : Option Value) (B : List Frame)
def lvD (d : Addr) (kvs : List (Nat × Nat)) : List Value → List Value := fun l => ([.ref d] : List Value) ++ (((kvs.map refP).flatMap fun x => [x.1, x.2]).filter Value.isRef ++ l)
def dispB (T : TurnD) (env : Env) (s : SharedT) (c : Code) (q : Pos) : Option (Addr × SharedT × Code × Pos) :=
  match sgB st n0 ann B (alloc newD) resA id s c T.dpos with
  | some (.ret (.ref d), s1, c1, q1) => (match sgB st n0 ann B (evalPairs (pairsE env T.dpos T.ks T.vs)) (resP T.kvs) (fun l => ([.ref d] : List Value) ++ l) s1 c1 q1 with
    | some (.brk, s2, c2, q2) => (match storeB st n0 ann B d (lvD d T.kvs) T.kvs [] s2 c2 q2 with
      | some (s3, c3, q3) => some (d, s3, c3, q3)
      | none => none)
    | _ => none)
  | _ => none
def assB (T : TurnD) (env : Env) (s : SharedT) (c : Code) (q : Pos) : Option (SharedT × Code × Pos) :=
  match sgB st n0 ann B (swapsWithSole T.tg (.Dict (T.ks.map some) T.vs T.dpos) T.pos.line env) resB id s c T.pos with
  | some (.cont, s1, c1, q1) => (match dispB st n0 ann B T env s1 c1 q1 with
    | some (d, s2, c2, q2) => (match sgB st n0 ann B (swappedStores T.tg (.Dict (T.ks.map some) T.vs T.dpos) env) resO id s2 c2 q2 with
      | some (.next, s3, c3, q3) => (match sgB st n0 ann B (assignStores env (.ref d) none ((assignEach T.tg env).map (·.2))) id id s3 c3 q3 with
        | some (.next, s4, c4, q4) => some (s4, c4, q4)
        | _ => none)
      | _ => none)
    | none => none)
  | _ => none
end
def nDisp (k : Nat) : Nat := 1 + (fuelT + (fuelT + nSet * k))
def nAss (k : Nat) : Nat := 1 + (fuelT + (nDisp k + (fuelT + fuelT)))
section
variable {p : Program} {w : World} {n0 : Nat} {ann : Option Value} {B : List Frame}
theorem Gs.hold {tb : String → Option Builtin} {lv : List Value → List Value} {α : Type} {m : Sem α} {x : α} {vs : List Value} {s s' : Shared} {c c' : Code} {q q' : Pos} {n : Nat} (h : Gs tb p w n0 ann B (fun l => lv (vs.filter Value.isRef ++ l)) m s c q n x s' c' q') : Gs tb p w n0 ann B lv (holding vs m) s c q n x s' c' q' := by
  rw [holding_eq_keep]
  exact Gs.keep h
end
end Mi
set_option maxHeartbeats 1000000
namespace Mi
open PySem PySem.W PySem.Calls PyProof.Rows HandSHeadRun
/-! ### the top with such a statement in it -/
def envT (p : Program) (code : Value) (fr : Addr) : Env := { scope := p.main.scope, locals := mainNs, globals := mainNs, cells := [], code := code, frame := some fr }
def frT1 (c : Code) (q : Pos) : List Frame := [.ret topAfter none false [] c q []]
section
variable (st : SharedT → Thread → Option (SharedT × Thread)) (n0 : Nat) (ann : Option Value)
def bodyB (p : Program) (T : TurnD) (M : Nat) (env : Env) (B : List Frame) (s : SharedT) (q : Pos) : Option SharedT :=
  match sgB st n0 ann B (blockStart (behindTheImports p) env) resU id s (.body (behindTheImports p) env) q with
  | some (.next, s1, c1, q1) => (match sgRun st n0 ann B.length M s1 ⟨(execs T.pre env).wrap (fun f => .pure (.done (id f))) deadEnd id id, c1, q1, B⟩ with
    | some (.next, s2, c2, q2) => (match assB st n0 ann B T env s2 c2 q2 with
      | some (s3, c3, q3) => goF st n0 ann M s3 ⟨(execs T.post env).wrap doneF (leaveH env) id id, c3, q3, B⟩
      | none => none)
    | _ => none)
  | _ => none
def topB (p : Program) (T : TurnD) (M : Nat) (s : SharedT) : Option SharedT :=
  match sgB st n0 ann [] (moduleCode p.main) (fun v => .ret v) id s (.builtin "claim.caller" {}) default with
  | some (.ret code, s1, c1, q1) => (match sgB st n0 ann [] (newBodyFrame code mainNs mainNs) resA id s1 c1 q1 with
    | some (.ret (.ref fr), s2, c2, q2) => bodyB st n0 ann p T M (envT p code fr) (frT1 c2 q2) s2 q2
    | _ => none)
  | _ => none
end
section
variable {p : Program} {w : World} {n0 : Nat} {ann : Option Value}
def nTop (k M : Nat) : Nat := fuelT + (fuelT + (1 + (fuelT + (M + (nAss k + M)))))
end
end Mi
set_option maxHeartbeats 1000000
namespace Mi
open PySem PySem.W PySem.Calls PyProof.Rows HandSHeadRun
/-! ### the imports, the fences, and such a top -/
def wholeT (st : Program → SharedT → Thread → Option (SharedT × Thread)) (fence : Program → Shared → Option Shared) (N M : Nat) (p : Program) (T : TurnD) : Option (Shared × SharedT) :=
  (impF (st (opening p)) N (startT (opening p)) (start (opening p)).2).bind fun i => (fence p i.abs).bind fun s0 =>
    cond (s0.heap.isNs mainGlobals && s0.gens.size == 0) ((treeOf s0).bind fun x => frS x fun x => (topB (st p) x.n (s0.heap.nsMap mainGlobals "__annotations__") p T M x).map fun s1 => (s0, s1)) none
noncomputable abbrev runT (w : World) (N M : Nat) (p : Program) (T : TurnD) : Option (Shared × SharedT) := wholeT (fun p => stepQ (denQ tabQ) p w) fenceQ N M p T
noncomputable abbrev seeT (r : OpenRow) (q : Program) (loose : List PySem.Str) :=
  fun (x : Shared × SharedT) => (looksF r.prog x.1.heap x.2.abs, seenQ q loose (importedModules r.prog.main.body) (fun s => xlAt q [] s && recOk r.toRowW.records s) x.2.abs)
/-- the whole run's equation at a world -/
structure RunEqT (r : OpenRow) (q : Program) (H : Hook) (ob : SharedT → H.α) (N M : Nat) (T : TurnD) (loose : List PySem.Str) (w : World) : Prop where
  see : (runT w N M r.prog T).map (seeT r q loose) = some (true, openGood q loose)
  ob : (runT w N M r.prog T).map (fun x => ob x.2) = some (H.val w)
end Mi
set_option maxHeartbeats 1000000
namespace Mi
open PySem PySem.W PySem.Calls PyProof.Rows
/-! ### the statement, taken out of the program -/
def turnAt (b : List Stmt) (i : Nat) (kvs : List (Nat × Nat)) : TurnD := match b[i]? with
  | some (.Assign tg (.Dict ks vs dpos) pos) => ⟨b.take i, tg, ks.filterMap id, vs, dpos, pos, b.drop (i + 1), kvs⟩
  | _ => ⟨[], [], [], [], default, default, [], []⟩
def turnOf (p : Program) (i : Nat) (kvs : List (Nat × Nat)) : TurnD := turnAt (behindTheImports p) i kvs
end Mi
set_option maxHeartbeats 1000000
namespace Mi
open PySem PySem.W PySem.Calls PyProof.Rows HandSHeadRun
/-! ### the top in pieces, from one written state to the next -/
section
variable (p : Program) (w : World) (n0 : Nat) (ann : Option Value) (env : Env) (B : List Frame)
/-- what follows the statements R -/
def RunP (R : List Stmt) (s : SharedT) (c : Code) (q : Pos) (k : Nat) (s' : SharedT) : Prop :=
  topRun treeTable p w n0 ann k s.abs ⟨(execs R env).wrap doneF (leaveH env) id id, c, q, B⟩ = some s'.abs
end
section
variable {p : Program} {w : World} {n0 : Nat} {ann : Option Value} {env : Env} {B : List Frame} {s s1 s' : SharedT} {c c1 : Code} {q q1 : Pos} {M k : Nat}
noncomputable abbrev stQ (p : Program) (w : World) : SharedT → Thread → Option (SharedT × Thread) := stepQ (denQ tabQ) p w
theorem stQ_eq (p : Program) (w : World) : stepT (denote treeTable) p w = stQ p w := by rw [stepQ_eq, denQ_eq, tabQ_eq]
theorem runP_nil (h : goF (stQ p w) n0 ann M s ⟨(execs [] env).wrap doneF (leaveH env) id id, c, q, B⟩ = some s') : RunP p w n0 ann env B [] s c q M s' := by
  rw [← stQ_eq] at h
  exact goF_ok h
theorem runP_app {A R : List Stmt} (hB : splitAtGen B = none) (h : sgRun (stQ p w) n0 ann B.length M s ⟨(execs A env).wrap (fun f => .pure (.done (id f))) deadEnd id id, c, q, B⟩ = some (.next, s1, c1, q1)) (hr : RunP p w n0 ann env B R s1 c1 q1 k s') : RunP p w n0 ann env B (A ++ R) s c q (M + k) s' := by
  rw [← stQ_eq] at h
  unfold RunP
  rw [execs_app_wrap]
  exact (Gs.sg (a0 := Flow.next) hB (fun _ e => e) h : GsT ..) _ _ _ _ hr
end
/-- an object, its epoch worked out -/
def nrmO (o : Obj) : Obj := match o with
  | ⟨c, d, .dict es n, s⟩ => frNat n fun n => ⟨c, d, .dict es n, s⟩
  | o => o
theorem nrmO_eq (o : Obj) : nrmO o = o := by
  unfold nrmO
  split
  · rw [frNat_eq]
  · rfl
theorem nrmL_eq (l : List Obj) : l.map nrmO = l := by
  rw [show nrmO = id from funext nrmO_eq, List.map_id]
/-- the imports and the fences: what is there then -/
def openL (st : Program → SharedT → Thread → Option (SharedT × Thread)) (fence : Program → Shared → Option Shared) (N : Nat) (p : Program) : Option (List Obj × Life × Array GenState × Drawn × Nat × OsState) :=
  (impF (st (opening p)) N (startT (opening p)) (start (opening p)).2).bind fun i => (fence p i.abs).map fun s0 => (s0.heap.objs.toList.map nrmO, s0.heap.life, s0.gens, s0.drawn, s0.toks, s0.os)
/-- the module's code, its frame, the block's start -/
def startB (st : SharedT → Thread → Option (SharedT × Thread)) (n0 : Nat) (ann : Option Value) (p : Program) (x : SharedT) : Option (SharedT × Value × Addr × Code × Pos × Code × Pos) :=
  match sgB st n0 ann [] (moduleCode p.main) (fun v => .ret v) id x (.builtin "claim.caller" {}) default with
  | some (.ret code, s1, c1, q1) => (match sgB st n0 ann [] (newBodyFrame code mainNs mainNs) resA id s1 c1 q1 with
    | some (.ret (.ref fr), s2, c2, q2) => (match sgB st n0 ann (frT1 c2 q2) (blockStart (behindTheImports p) (envT p code fr)) resU id s2 (.body (behindTheImports p) (envT p code fr)) q2 with
      | some (.next, s3, c3, q3) => some (s3, code, fr, c2, q2, c3, q3)
      | _ => none)
    | _ => none)
  | _ => none
noncomputable abbrev openQ (w : World) (N : Nat) (p : Program) := openL (fun p => stQ p w) fenceQ N p
section
variable {p : Program} {w : World} {N k n0 : Nat} {x s3 s' : SharedT} {ann : Option Value} {code : Value} {fr : Addr} {c2 c3 : Code} {q2 q3 : Pos}
theorem openQ_eq (w : World) (N : Nat) (p : Program) : openL (fun q => stepT (denote treeTable) q w) fenceModules? N p = openQ w N p := by
  unfold openQ stQ
  rw [stepQ_eq, denQ_eq, tabQ_eq, fenceQ_eq]
theorem openQ_ok {l : List Obj} (h : openQ w N p = some (l, x.life, x.gens, x.drawn, x.toks, x.os)) (hx : x.abs.heap.objs.toList = l) : fencedOpening treeTable p w N = some x.abs := by
  rw [← openQ_eq] at h
  unfold openL at h
  obtain ⟨i, h1, h⟩ := Option.bind_eq_some_iff.mp h
  obtain ⟨z, h2, h⟩ := Option.map_eq_some_iff.mp h
  have a := impF_ok h1
  rw [startT_eq] at a
  simp only [Prod.mk.injEq] at h
  obtain ⟨e1, e2, e3, e4, e5, e6⟩ := h
  rw [nrmL_eq] at e1
  have e : z = x.abs := by
    obtain ⟨⟨zo, zl⟩, zg, zd, zt, zs⟩ := z
    obtain ⟨t, n, l1, g1, d1, t1, o1⟩ := x
    dsimp only at e1 e2 e3 e4 e5 e6
    subst e2 e3 e4 e5 e6
    have : zo = (absHeap t n zl).objs := Array.ext' (by rw [e1]; exact hx.symm)
    subst this
    rfl
  unfold fencedOpening
  rw [a, ← e]
  exact h2
theorem startB_ok (h : startB (stQ p w) n0 ann p x = some (s3, code, fr, c2, q2, c3, q3)) (hr : RunP p w n0 ann (envT p code fr) (frT1 c2 q2) (behindTheImports p) s3 c3 q3 k s') :
    topRun treeTable p w n0 ann (fuelT + (fuelT + (1 + (fuelT + k)))) x.abs (topStub p) = some s'.abs := by
  rw [← stQ_eq] at h
  unfold startB at h
  split at h
  · rename_i code' s1 c1 q1 e1
    split at h
    · rename_i fr' s2 c2' q2' e2
      split at h
      · rename_i s3' c3' q3' e3
        simp only [Option.some.injEq, Prod.mk.injEq] at h
        obtain ⟨rfl, rfl, rfl, rfl, rfl, rfl, rfl⟩ := h
        have hB : splitAtGen (frT1 c2' q2') = none := rfl
        have e : topRun treeTable p w n0 ann (fuelT + k) s2.abs ⟨denote treeTable (.body (behindTheImports p) (envT p code' fr')), .body (behindTheImports p) (envT p code' fr'), q2', frT1 c2' q2'⟩ = some s'.abs := by
          rw [body_wrap]
          exact (sgB_ok (a0 := ()) hB (fun _ _ => rfl) e3 : GsT ..) _ _ _ _ hr
        unfold topStub
        rw [Sem.bind_eq_wrap']
        refine (sgB_ok (a0 := code') rfl (fun a e => by cases e; rfl) e1 : GsT ..) _ _ _ _ ?_
        rw [Sem.bind_eq_wrap']
        refine (sgB_ok (a0 := fr') rfl (fun _ => resA_ok) e2 : GsT ..) _ _ _ _ ?_
        exact step1 rfl rfl rfl e
      · cases h
    · cases h
  · cases h
end
/-- the whole run, in written states -/
structure RunW (p : Program) (w : World) (N k : Nat) (x s' : SharedT) : Prop where
  o : fencedOpening treeTable p w N = some x.abs
  g : (x.abs.heap.isNs mainGlobals && x.abs.gens.size == 0) = true
  t : topRun treeTable p w x.abs.heap.objs.size (x.abs.heap.nsMap mainGlobals "__annotations__") k x.abs (topStub p) = some s'.abs
theorem runW_of {p : Program} {w : World} {N k n0 : Nat} {x s3 s' : SharedT} {ann : Option Value} {code : Value} {fr : Addr} {c2 c3 : Code} {q2 q3 : Pos} {l : List Obj} (ho : openQ w N p = some (l, x.life, x.gens, x.drawn, x.toks, x.os)) (hx : x.abs.heap.objs.toList = l)
    (hg : (x.abs.heap.isNs mainGlobals && x.abs.gens.size == 0) = true) (hn : x.abs.heap.objs.size = n0) (ha : x.abs.heap.nsMap mainGlobals "__annotations__" = ann)
    (h : startB (stQ p w) n0 ann p x = some (s3, code, fr, c2, q2, c3, q3)) (hr : RunP p w n0 ann (envT p code fr) (frT1 c2 q2) (behindTheImports p) s3 c3 q3 k s') :
    RunW p w N (fuelT + (fuelT + (1 + (fuelT + k)))) x s' := by
  subst hn ha
  exact ⟨openQ_ok ho hx, hg, startB_ok h hr⟩
theorem left_pieces {p q : Program} {loose : List PySem.Str} {Xt : Shared → Bool} {α : Type} {Yf : Shared → α} {Ya : World → α} {N k : Nat} {x s' : World → SharedT} (hN : Nat.ble k N = true) (run : ∀ w, RunW p w N k (x w) (s' w))
    (see : ∀ w : World, (looksF p (x w).abs.heap (s' w).abs, openSeen q loose (importedModules p.main.body) Xt true (s' w).abs, Yf (s' w).abs) = (true, openGood q loose, Ya w)) : LeftO p q loose Xt Yf Ya N true := fun w => by
  obtain ⟨o, g, t⟩ := run w
  obtain ⟨v1, v⟩ := Prod.mk.inj (see w)
  have t' := topRun_mono (N - k) _ _ _ _ t
  rw [show k + (N - k) = N by have := Nat.le_of_ble_eq_true hN; omega] at t'
  have l : topFrom treeTable p w N (x w).abs = some (s' w).abs := by
    unfold topFrom
    rw [g]
    dsimp only
    rw [t', Option.bind_some]
    have v2 : (staticsOk (importedModules p.main.body) (x w).abs.heap (s' w).abs.heap && namesBound p (s' w).abs.heap && gensDone (s' w).abs && laidKept (x w).abs.heap (s' w).abs.heap) = true := v1
    rw [v2]
  show ((fencedOpening treeTable p w N).bind (topFrom treeTable p w N)).map _ = _
  rw [o, Option.bind_some, l]
  exact congrArg some v
theorem head_pieces {r : OpenRow} {q : Program} {H : Hook} {ob : SharedT → H.α} {N k : Nat} {x s' : World → SharedT} {loose : List PySem.Str} {d : DefRec} {kwd : List (PySem.Str × PySem.Expr)} (ho : ∀ s : SharedT, ob s = H.obs s.abs)
    (hN : Nat.ble k N = true) (run : ∀ w, RunW r.prog w N k (x w) (s' w))
    (h1 : ∀ w, looksF r.prog (x w).abs.heap (s' w).abs = true) (h2 : ∀ w, seenQ q loose (importedModules r.prog.main.body) (fun s => xlAt q [] s && recOk r.toRowW.records s) (s' w).abs = openGood q loose) (h3 : ∀ w, ob (s' w) = H.val w)
    (hdef : defOf q r.name = some (d, kwd)) (hp : r.prog.theDef r.name = some (d.params, d.body, d.scope)) (hk : kwWritten? d.params.kwonlyargs d.params.kw_defaults = some kwd) (hwr : (!r.writes || r.records.isEmpty) = true) (k1 : r.wellSaid = true)
    (ok : (chainsOk q && opensWell r.prog && (frees r.toRowW && r.within.isEmpty)) = true) (bare : r.prog.bare) (hw : r.toRowW.promised) (call : WalkO q loose (XL q []) H.says r.toRowW d kwd fun f vs => PySem.call f vs) : r.Holds := by
  have left : LeftO r.prog q loose (fun s => xlAt q [] s && recOk r.toRowW.records s) H.obs H.val N true := by
    refine left_pieces hN run fun w => ?_
    have e3 := h3 w
    rw [ho] at e3
    rw [h1 w, seenQ_eq, h2 w, e3]
  refine holds_open (XP := XL q []) (YP := H.says) left H.of H.keeps ?_ XL.keeps hdef hp hk ?_ hwr k1 ok bare hw call
  · exact fun s z => xl_of s (Bool.and_eq_true_iff.mp z).1
  · exact fun s z => recFacts_of (Bool.and_eq_true_iff.mp z).2
/-! ### words for written objects -/
abbrev vS (x : String) (t : Nat) : Value := .str (.ofString x) t
abbrev vI (i : Int) (t : Nat) : Value := .int i t
abbrev vR (a : Nat) : Value := .ref a
abbrev vB (b : String) : Value := .builtin b
abbrev vT (b : String) : Value := .type b
abbrev vN : Value := .none
def dE (w : World) (x : String) (t : Nat) (v : Value) : DictEntry := ⟨PyData.keyHash w.params (.ofString x), .str (.ofString x) t, v⟩
def oD (es : List DictEntry) (n : Nat) : Obj := ⟨.type "dict", none, .dict es.toArray n, #[]⟩
def oT (vs : List Value) : Obj := ⟨.type "tuple", none, .seq vs.toArray 0, #[]⟩
def oL (vs : List Value) (n : Nat) : Obj := ⟨.type "list", none, .seq vs.toArray n, #[]⟩
def oF (c : Value) (vs : List Value) : Obj := ⟨c, none, .fields vs.toArray, #[]⟩
def oP (c : Value) (sl : List (Option Value)) : Obj := ⟨c, none, .plain, sl.toArray⟩
def oC (c : Value) (d : Option Nat) (name : String) (bases mro : List Value) (ns : Nat) (qual : String) (sl : List (Option Value)) : Obj := ⟨c, d, .cls { name := .ofString name, bases := bases, mro := mro, ns := ns, qualname := .ofString qual }, sl.toArray⟩
def oU (c : Value) (name qual : String) (st : Stmt) (globals : Nat) (closure : List (PySem.Str × Nat)) (dfl kwd pm : Value) (ann : Option Nat) (code ct : Value) (bi : Nat) (sl : List (Option Value)) : Obj :=
  ⟨c, none, .func ⟨.ofString name, .ofString qual, L2.defArgs st, .stmts (L2.defBody st), L2.defScope st, globals, closure, dfl, kwd, .none, pm, ann, code, ct, bi⟩, sl.toArray⟩
/-- the tree of a list of objects -/
def trF : Nat → List Obj → BT
  | 0, _ => .nil
  | _ + 1, [] => .nil
  | n + 1, o :: r => .node o (trF n (alt true r)) (trF n (alt false r))
where alt : Bool → List Obj → List Obj
  | _, [] => []
  | true, x :: r => x :: alt false r
  | false, _ :: r => alt true r
end Mi
set_option maxHeartbeats 1000000
namespace Mi
open PySem PySem.Spec L2
open Evl (Ex)
/-! ### an f-string as a value -/
section
variable {K : PySem.W.Frag} {W : WX} {F H : Hp} {σ : L2.St} {env : En} {α β γ : Type} [ToD α] [ToD β] [ToD γ] {te to : TE}
def EvG (K : PySem.W.Frag) (W : WX) (env : En) (ts : List TE) (N : Nat) (m : Res Str) : Prop :=
  ∀ F0 H0 F H σ acc (Q : Str → Hp → Prop), Sl K F0 H0 F H σ env → acc.length + N ≤ sizeLine → KE K W F H σ (fun v H' => ∀ out, v = V.str out → Q (acc ++ out) H') m → tJs ts acc σ H Q
theorem ev_sliceS {m : Res Str} {ml mh : Res (Option Int)} {tl th : TO} (h : EvX K W env te m) (hl : EvPt K W env tl ml) (hh : EvPt K W env th mh) :
    EvX K W env (tSl rSlS te tl th) (m.bind fun xs => ml.bind fun lo => mh.bind fun hi => .need (xs.length ≤ 16777216) (.ok (cutS xs lo hi))) := fun F0 H0 F H σ Q S k => by
  refine h F0 H0 F H σ _ S ?_
  cases m with
  | ok xs =>
    intro v F1 H1 a r
    have ev : v = V.str xs := r
    subst ev
    refine hl F0 H0 F1 H1 σ _ (S.step a) ?_
    cases ml with
    | ok lo =>
      intro F2 H2 a2
      refine hh F0 H0 F2 H2 σ _ ((S.step a).step a2) ?_
      cases mh with
      | ok hi =>
        intro F3 H3 a3
        have b := (a.trans a2).trans a3
        have k : KE K W F H σ Q (.need (xs.length ≤ 16777216) (.ok (cutS xs lo hi))) := k
        by_cases c : xs.length ≤ 16777216
        · rw [Res.need_pos c] at k
          exact ⟨xs, rfl, by rw [sizeLine_eq]; exact c, k _ F3 H3 b rfl⟩
        · rw [Res.need_neg c] at k; exact k.elim
      | exc c => exact fun F3 H3 a3 => k F3 H3 ((a.trans a2).trans a3)
      | stuck => exact k.elim
    | exc c => exact fun F2 H2 a2 => k F2 H2 (a.trans a2)
    | stuck => exact k.elim
  | exc c => exact k
  | stuck => exact k.elim
end
/-! ### a call without arguments -/
section
variable {X : Cx} {CX : CXT} {k : Nat} {f : Addr} {fd : FuncData} {ps : List Str} {sp : Sp} {E : L2.St → XK} {x : Str} {p pos : Pos}
theorem pe_callS0 (F : FnOk X.prog X.w X.K X.mg X.base CX k f fd ps sp) (hr : Room k X.A) (hg : Gl X x) (hm : X.mg x = some (.ref f)) (hk : PySem.W.keepIn X.K (.ref f) = true) (hb : Binds X.K fd ps []) (hx : ∀ σ, PassesAt CX X σ (E σ))
    (hdb : (x == ("__debug__" : Str)) = false := by decide) : PE X (.Call (.Name x p) [] [] pos) (tCallS sp E tNil) := by
  refine ⟨fun pins s σ H Q I h => ?_⟩
  refine wpAny_Call_Name_kw (ld_glob I hg hm ?_ hdb)
  exact PySem.W.callWith_K0 I.kIn hk (run_fnS (us := []) F hr hb (hx σ) I .nil h)
end
/-! ### is, is not of a bool or None and a bool -/
def rIsOB : R2 := fun x y H Q => ∃ b : Bool, y = .bl b ∧ ((x = .non ∧ Q (.bl false) H) ∨ ∃ a : Bool, x = .bl a ∧ Q (.bl (decide (a = b))) H)
def rNotOB : R2 := fun x y H Q => ∃ b : Bool, y = .bl b ∧ ((x = .non ∧ Q (.bl true) H) ∨ ∃ a : Bool, x = .bl a ∧ Q (.bl (!decide (a = b))) H)
section
variable {X : Cx}
end
/-! ### two fors in a comprehension, the second with an if -/
def compL2T {α β γ : Type} (it : α → Res (List β)) (tst : α → β → Res Bool) (el : α → β → Res γ) : List α → Res (List γ)
  | [] => .ok []
  | x :: xs => (it x).bind fun ys => (compL (tst x) (el x) ys).bind fun zs => (compL2T it tst el xs).bind fun r => .ok (zs ++ r)
section
variable {K : PySem.W.Frag} {W : WX} {env : En} {te : TE} {tt : TT} {α β γ : Type} [ToD α] [ToD β] [ToD γ]
end
end Mi
set_option maxHeartbeats 1000000
namespace Mi
open PySem PySem.Spec L2
open Evl (Ex)
/-! ### objects that methods change -/
/-- what a method of such an object gives: a value, and the object as it then is -/
structure MoR (α S : Type) where
  x : α
  s : S
/-- the same, with the object's place -/
def Mo (p : Addr) (α S : Type) := MoR α S
/-- an object at its place, not frozen -/
def At (K : PySem.W.Frag) (F H : Hp) (p : Addr) : D → Prop
  | .obj c ks ds => ∃ dx vs, F p = none ∧ H p = some (.ins (He.ga K c) dx (ks.zip vs)) ∧ ks.length = vs.length ∧ Reps K F ds vs
  | _ => False
instance {p : Addr} {α S : Type} [ToD α] : ToD (Mo p α S) := ⟨fun z => ToD.d (MoR.x z)⟩
instance {p : Addr} {α S : Type} [ToD S] : ToR (Mo p α S) := ⟨fun K z v H0 F H => At K F H p (toD (MoR.s z))⟩
def Res.bind2 {α S β : Type} (m : Res (MoR α S)) (g : α → S → Res β) : Res β := m.bind fun z => g z.x z.s
section
variable {K : PySem.W.Frag} {F0 H0 F H F' H' : Hp} {σ : L2.St} {env : En}
theorem At.adv {p : Addr} {d : D} (a : Adv F H F' H') (h : At K F H p d) : At K F' H' p d := by
  cases d <;> try exact h
  obtain ⟨dx, vs, h1, h2, h3, h4⟩ := h
  exact ⟨dx, vs, a.out p h1 (by rw [h2]; simp), a.h _ _ h2, h3, Reps.mono a.f _ _ h4⟩
/-- the heap without an owned object -/
theorem SkOk.hide {sk : Sk} {v : V} {p : Addr} (hn : sk.own = true → v ≠ .ref p) (h : SkOk K H0 F H sk v) : SkOk K H0 F (hide H p) sk v := by
  cases sk with
  | im e => exact h
  | raw w => exact h
  | ow xs =>
    obtain ⟨q, vs, e1, e2, e3, e4, e5⟩ := h
    have hne : q ≠ p := fun z => hn rfl (by rw [e1, z])
    exact ⟨q, vs, e1, e2, e3, by rw [hide_ne hne]; exact e4, e5⟩
  | oi pp c ks ds =>
    obtain ⟨q, dx, vs, e1, e2, e3, e4, e5, e6, e7⟩ := h
    have hne : q ≠ p := fun z => hn rfl (by rw [e1, z])
    exact ⟨q, dx, vs, e1, e2, e3, by rw [hide_ne hne]; exact e4, e5, e6, e7⟩
theorem set_none_get {i j : Nat} {sk : Sk} (h : (env.set i none)[j]? = some (some sk)) : j ≠ i ∧ env[j]? = some (some sk) := by
  rcases set_get h with ⟨_, z⟩ | ⟨z, q⟩
  · cases z
  · exact ⟨fun w => z w.symm, q⟩
theorem Sl.hide (S : Sl K F0 H0 F H σ env) {i : Nat} {sk : Sk} {p : Addr} (hi : env[i]? = some (some sk)) (ho : sk.own = true) (hs : σ[i]? = some (some (.ref p))) (h0 : H0 p = none) (hf : F p = none) : Sl K F0 H0 F (Mi.hide H p) σ (env.set i none) := by
  refine ⟨⟨S.adv.f, fun a u q => ?_, fun a u q => ?_, S.adv.out⟩, fun j sk' q => ?_, fun j k sk1 sk2 p' hjk e1 e2 o1 o2 h1 => ?_, by rw [List.length_set]; exact S.len⟩
  · rw [hide_ne (ne_of_none q h0)]; exact S.adv.h a u q
  · rw [hide_ne (ne_of_none q hf)]; exact S.adv.in_ a u q
  · obtain ⟨z, q⟩ := set_none_get q
    obtain ⟨w, h1, h2⟩ := S.slot j sk' q
    exact ⟨w, h1, h2.hide fun o2 zz => S.dis j i _ _ p z q hi o2 ho (by rw [h1, zz]) hs⟩
  · exact S.dis j k sk1 sk2 p' hjk (set_none_get e1).2 (set_none_get e2).2 o1 o2 h1
end
/-! ### what follows a value whose expression changes an object -/
section
variable (K : PySem.W.Frag) (W : WX) (F0 H0 F : Hp) (σ : L2.St)
def KM {α S : Type} [ToD α] (env' : S → En) (envE : En) (Q : VK) : Res (MoR α S) → Prop
  | .ok z => ∀ v F' H', Ex F F' → Sl K F0 H0 F' H' σ (env' z.s) → Rep K F' (toD z.x) v → Q v H'
  | .exc c => ∀ F' H', Ex F F' → Sl K F0 H0 F' H' σ envE → W (.ref (He.ga K c)) none σ H'
  | .stuck => False
def KMA {β S : Type} [ToDs β] (env' : S → En) (envE : En) (Q : List V → Hp → Prop) : Res (MoR β S) → Prop
  | .ok z => ∀ vs F' H', Ex F F' → Sl K F0 H0 F' H' σ (env' z.s) → Reps K F' (ToDs.ds z.x) vs → Q vs H'
  | .exc c => ∀ F' H', Ex F F' → Sl K F0 H0 F' H' σ envE → W (.ref (He.ga K c)) none σ H'
  | .stuck => False
end
def EvM (K : PySem.W.Frag) (W : WX) (env : En) {S : Type} (env' : S → En) (envE : En) (te : TE) {α : Type} [ToD α] (m : Res (MoR α S)) : Prop :=
  ∀ F0 H0 F H σ Q, Sl K F0 H0 F H σ env → KM K W F0 H0 F σ env' envE Q m → te σ H Q
def EvMA (K : PySem.W.Frag) (W : WX) (env : En) {S : Type} (env' : S → En) (envE : En) (ta : TA) {β : Type} [ToDs β] (m : Res (MoR β S)) : Prop :=
  ∀ F0 H0 F H σ Q, Sl K F0 H0 F H σ env → KMA K W F0 H0 F σ env' envE Q m → ta σ H Q
/-- the promise of a method of such an object -/
def KO (K : PySem.W.Frag) (F H : Hp) (p : Addr) {α S : Type} [ToD α] [ToD S] (Q : VK) (E : XK) : Res (MoR α S) → Prop
  | .ok z => ∀ v F' H', Adv F (hide H p) F' H' → At K F' H' p (toD z.s) → Rep K F' (toD z.x) v → Q v H'
  | .exc c => ∀ F' H', Adv F (hide H p) F' H' → E (.ref (He.ga K c)) none H'
  | .stuck => False
def spO (K : PySem.W.Frag) {α S δ : Type} [ToD α] [ToD S] [ToDs δ] (f : S × δ → Res (MoR α S)) : Sp := fun vs H Q E => ∃ F s y p ws, vs = .ref p :: ws ∧ Ex F H ∧ At K F H p (toD s) ∧ Reps K F (ToDs.ds y) ws ∧ KO K F H p Q E (f (s, y))
section
variable {K : PySem.W.Frag} {W : WX} {env envE : En} {α β γ S : Type} [ToD α] [ToD β] [ToD γ] [ToD S] {env' : S → En} {te ta tb : TE} {r : R2}
end
/-! ### statements -/
section
variable {K : PySem.W.Frag} {W : WX} {F0 H0 F H : Hp} {rt : VK} {PT : En → Prop} {env envE : En} {α β S τ : Type} [ToD α] [ToD β] [ToD S] [ToD τ] [ToR τ] {KP : Res τ → Prop} {env' : S → En} {te : TE} {Z : Ends}
end
section
variable {K : PySem.W.Frag} {W : WX} {F0 H0 F H : Hp} {rt : VK} {PT : En → Prop} {env envE : En} {α S : Type} [ToD α] [ToD S] {p : Addr} {KP : Res (Mo p α S) → Prop} {env' : S → En} {te : TE} {Z : Ends}
end
section
variable {K : PySem.W.Frag} {W : WX} {F0 H0 F H : Hp} {rt : VK} {PT : En → Prop} {env : En} {S : Type} [ToD S] {p : Addr} {KP : Res (Mo p Unit S) → Prop} {Z : Ends}
end
/-! ### a method, an __init__ of such an object -/
section
variable {P : Program} {w : World} {K : PySem.W.Frag} {mg : Str → Option Value} {base : Heap} {x qual : Str} {params : Arguments} {body : List Stmt} {scope : Scope} {dvs : List V} {kws : List (Str × V)} {f : Addr} {fd : FuncData}
/-- the promise of an __init__ of such an object -/
def spJ (K : PySem.W.Frag) (c : Str) {S δ : Type} [ToD S] [ToDs δ] (f : δ → Res (MoR Unit S)) : Sp := fun vs H Q E => ∃ F y p dx ws, vs = .ref p :: ws ∧ Ex F H ∧ F p = none ∧ H p = some (.ins (He.ga K c) dx []) ∧ Reps K F (ToDs.ds y) ws ∧ KO K F H p Q E (f y)
end
/-! ### a new object that is changed later -/
def KOb (K : PySem.W.Frag) (W : WX) (F H : Hp) (σ : L2.St) {S : Type} [ToD S] (Q : VK) : Res S → Prop
  | .ok s => ∀ p F' H', Adv F H F' H' → H p = none → At K F' H' p (toD s) → Q (.ref p) H'
  | .exc c => ∀ F' H', Adv F H F' H' → W (.ref (He.ga K c)) none σ H'
  | .stuck => False
def EvO (K : PySem.W.Frag) (W : WX) (env : En) (te : TE) {S : Type} [ToD S] (m : Res S) : Prop :=
  ∀ F0 H0 F H σ Q, Sl K F0 H0 F H σ env → KOb K W F H σ Q m → te σ H Q
section
variable {K : PySem.W.Frag} {W : WX} {env : En} {S τ : Type} [ToD S] {te : TE}
/-- C(.., k = v, ..) -/
def tMakeNS (C : Addr) (n m : Nat) (sp : Sp) (gV : List V → List V → List V) (E : L2.St → XK) (t tk : TA) : TE := fun σ H Q => t σ H fun vs H1 => tk σ H1 fun zs H2 => vs.length = n ∧ zs.length = m ∧ ∀ x dx, H2 x = none → H2 dx = none → dx ≠ x →
  sp (gV (.ref x :: vs) zs) (upd (upd H2 dx (.own x)) x (.ins C dx [])) (fun v H3 => v = .non ∧ Q (.ref x) H3) (E σ)
end
section
variable {X : Cx} {CX : CXT} {k n : Nat} {f C : Addr} {fd : FuncData} {ps ks : List Str} {sp : Sp} {E : L2.St → XK} {x : Str} {p pos : Pos} {e : Expr} {es : List Expr} {kws : List Keyword} {t tk : TA} {g : List Value → List Value → List Value} {gV : List V → List V → List V}
end
section
variable {K : PySem.W.Frag} {W : WX} {F0 H0 : Hp} {rt : VK} {PT : En → Prop} {env : En} {S τ : Type} [ToD S] [ToD τ] [ToR τ] {KP : Res τ → Prop} {te : TE} {Z : Ends}
end
end Mi
set_option maxHeartbeats 1000000
namespace Mi
open PySem PySem.Spec L2
open PyProof.Rows
open Evl (Ex)
/-! ### a comprehension whose element raises -/
section
variable {X : Cx} {pins : List (Addr × Obj)} {σ : L2.St} {H3 : Hp} {s3 : Shared} {scope : Scope} {ce : Env} {fp : List Addr} {E : XK}
/-- what a block asks of a raise -/
abbrev blkX (X : Cx) (ce : Env) : Value → Shared → Prop := notedBy (model X.prog X.w) X.A ce (CompFails (model X.prog X.w) X.A X.xe ce)
theorem blk_pass (hs : X.stack = X.env :: X.outer) (hf : X.env.frame = some X.env.locals) (tk : L2.Takes X (W0 E)) (hcf : ce.frame = X.env.frame) (I3 : Inv X pins σ H3 s3) (hC : s3.heap.objs.size ≤ ce.locals)
    (hfp : ∀ b ∈ fp, (b ∈ X.ex ∨ X.s_0.heap.objs.size ≤ b) ∧ b ≠ X.env.locals ∧ (∀ x c, X.env.cells.lookup x = some c → c ≠ b) ∧ ∀ p ∈ X.pn ++ pins, p.1 ≠ b) (σb : L2.St) :
    PassesAt (L2.CX X.prog X.w) ((X.blk s3 H3 scope ce fp).wish (blkX X ce)) σb E := by
  intro ps H s e s' Ib c
  obtain ⟨a, B0, Hc, cl0, d0, rfl, fl0, _⟩ := id c
  have x := L2.XE.of_call (W := fun cls d _ H' => E cls d H') Ib (fun _ _ _ h => h) c
  obtain ⟨a2, B, sI, pinsb, σb', H', cls, d, ea, Ib', nb, up, sky, na, os, ag, w⟩ := x
  cases ea
  have fl : HandSPX.FlyingZ B X.stack a (Zc cls d) s'.heap := by
    obtain ⟨_, _, _, oe, vs, T, oT, ts, he, _, hd, h1, _, _, hT, hdT, h3⟩ := fl0
    rcases sky with ⟨_, _, _, oe', vs', he', _, hd', h1'⟩ | f | ⟨_, _, _, oe', vs', T', oT', ts', he', _, hd', h1', _, _, hT', hdT', h3'⟩
    · rw [he] at he'; cases he'
      rw [hd] at hd'; cases hd'
      rw [h1] at h1'; cases h1'
    · exact f
    · rw [he] at he'; cases he'
      rw [hd] at hd'; cases hd'
      rw [h1] at h1'; cases h1'
      rw [hT] at hT'; cases hT'
      rw [hdT] at hdT'; cases hdT'
      rw [h3] at h3'; cases h3'
  have hfr : X.A.frames = some (X.env :: X.outer) := by rw [I3.ok.frames, hs]
  rw [hs] at fl
  -- the block's dict
  obtain ⟨mC, hnC, _⟩ := Ib'.loc
  have hnC : sI.heap.Ns ce.locals mC := hnC
  have freeC : H' ce.locals = none := Ib'.free
  have Cfr : ce.locals ∉ frs X.stack := fun z => by
    have z := I3.stkSub _ z
    have q := (I3.fpOk (H' := H') hC freeC)
    rcases List.mem_cons.mp z with z | z
    · exact q.2.1 z
    · exact q.2.2.1 z
  show wpAny (model X.prog X.w) X.A (noteFrame (.ref a) ce) (fun _ s'' => CompFails (model X.prog X.w) X.A X.xe ce (.ref a) s'') _ s'
  rw [noteFrame_env _ hcf]
  refine HandSPX.looks_onZ Zc.steady hfr hf fl fun h1 held1 up1 => ?_
  have hn1 : h1.Ns ce.locals mC := (hnC.upToSlots up).upToSlots up1
  refine ⟨mC, hn1, fun h2 m2 hn2 sb => ?_⟩
  obtain ⟨b1, b0, f1, oe, vs, T, oT, ts, he, hz, hd, hv1, hnT, hTe, hT, hdT, h3v⟩ := held1
  obtain ⟨o1, es1, ep1, ho1, hd1, _⟩ := hn1
  obtain ⟨oC, esC, epC, hoC, hdC, _⟩ := id hn2
  obtain ⟨oI, esI, epI, hoI, hdI, _⟩ := hnC
  have aC : a ≠ ce.locals := fun z => by
    rw [z, ho1] at he; cases he
    rw [hd1] at hd; cases hd
  have TC : T ≠ ce.locals := fun z => by
    rw [z, ho1] at hT; cases hT
    rw [hd1] at hdT; cases hdT
  have BC : B.get? ce.locals = some oI := nb _ _ hoI Cfr
  have nfr : oC.isFreed = false := (Heap.get?_some_iff.mp hoC).2
  have B1 : (B.update ce.locals fun _ => oC).get? ce.locals = some oC := Heap.get?_update_self (fun _ => oC) BC nfr
  have B2 : ∀ b, b ≠ ce.locals → (B.update ce.locals fun _ => oC).get? b = B.get? b := fun b hb => Heap.get?_update_other _ _ (Ne.symm hb)
  have G1 : (sI.heap.update ce.locals fun _ => oC).get? ce.locals = some oC := Heap.get?_update_self (fun _ => oC) hoI nfr
  have G2 : ∀ b, b ≠ ce.locals → (sI.heap.update ce.locals fun _ => oC).get? b = sI.heap.get? b := fun b hb => Heap.get?_update_other _ _ (Ne.symm hb)
  have he2 : h2.get? a = some oe := (sb.2 a aC).trans he
  have hT2 : h2.get? T = some oT := (sb.2 T TC).trans hT
  have fr2 : h2.FunFrames (B.update ce.locals fun _ => oC) (X.env :: X.outer) := funFrames_none (Heap.FunFrames.sameBut sb hn2 f1) fun L hL => by
    rw [← hs] at hL
    rw [B2 L fun z => Cfr (z ▸ hL)]
    rw [hs] at hL
    exact (f1.mem hL).1
  have held2 : HandSPX.HeldZ (B.update ce.locals fun _ => oC) (X.env :: X.outer) a (Zc cls d) X.env.locals h2 := by
    refine ⟨fun b o hb => ?_, (B2 a aC).trans b0, fr2, oe, vs, T, oT, ts, he2, hz, hd, hv1, (B2 T TC).trans hnT, hTe, hT2, hdT, h3v⟩
    by_cases z : b = ce.locals
    · rw [z] at hb ⊢
      rw [B1] at hb; cases hb
      exact hoC
    · rw [B2 b z] at hb
      exact (sb.2 b z).trans (b1 b o hb)
  unfold PySem.passOn
  refine wpAny_bind (wpAny_field he2 hd hv1 ?_)
  rw [if_neg (show ¬ ((Value.ref T == Value.none) = true) by simp), hcf, hf]
  refine wpAny_bind (HandSPX.setFlight_onZ held2 fun h3 held3 up3 => ?_)
  refine wpAny_throw ?_
  have I7 : Inv X pins σ H' sI := I3.call' (ch := fp) Ib'.os Ib'.base Ib'.hok Ib'.bare hfp
  obtain ⟨g0, g1, g2, g3, g4, g5⟩ := I3.fpOk (H' := H') hC freeC
  have I8 := I7.turned (t' := sI.toks) (h' := sI.heap.update ce.locals fun _ => oC) (it := ce.locals) (fun b o hb e => (G2 b hb).trans e) g0 g1 g3 g4 g5
  have Ios : sI.os = X.s_0.os := I7.os
  refine tk _ _ ⟨a, B.update ce.locals fun _ => oC, _, pins, σ, H', cls, d, rfl, I8, fun b o hb hF => ?_, fun b o hb hnf => ?_, .inr (.inr ?_), na, ?_, ag, w⟩
  · by_cases z : b = ce.locals
    · rw [z] at hb ⊢
      exact B1.trans (G1.symm.trans hb)
    · rw [B2 b z]
      exact nb b o ((G2 b z).symm.trans hb) hF
  · by_cases z : b = ce.locals
    · rw [z] at hb ⊢
      have hb : some oC = some o := G1.symm.trans hb
      cases hb
      exact up3 _ _ hoC hnf
    · have hb : sI.heap.get? b = some o := (G2 b z).symm.trans hb
      obtain ⟨l1, q1⟩ := up b o hb hnf
      obtain ⟨l2, q2⟩ := up1 b _ q1 hnf
      obtain ⟨l3, q3⟩ := up3 b _ ((sb.2 b z).trans q2) hnf
      exact ⟨l3, q3⟩
  · rw [hs]; exact held3
  · exact os
theorem pe_lcE {X : Cx} {E : XK} {elt tg iter : Expr} {ifs : List Expr} {scope : Scope} {own : List (Str × Nat)} {pos : Pos} {wi : TI} {g : TG} {tt : TT} {te : TE}
    (hs : X.stack = X.env :: X.outer) (hf : X.env.frame = some X.env.locals) (tk : L2.Takes X (W0 E)) (hc : X.calm = true) (hN : X.N.Nodup)
    (hi : PI X tg iter wi) (ok : BlkOk X.N X.env.scope scope own)
    (hg : ∀ (s : Shared) (H : Hp) (C : Addr) (cl : List (Str × Addr)) (fp : List Addr), PG (X.blk s H scope (compEnvC scope cl C X.env) fp) tg g)
    (ht : ∀ (s : Shared) (H : Hp) (C : Addr) (cl : List (Str × Addr)) (fp : List Addr), PTs (X.blk s H scope (compEnvC scope cl C X.env) fp) ifs tt)
    (he : ∀ (s : Shared) (H : Hp) (C : Addr) (cl : List (Str × Addr)) (fp : List Addr),
      (∀ τ, PassesAt (L2.CX X.prog X.w) ((X.blk s H scope (compEnvC scope cl C X.env) fp).wish (blkX X (compEnvC scope cl C X.env))) τ E) →
      PE ((X.blk s H scope (compEnvC scope cl C X.env) fp).wish (blkX X (compEnvC scope cl C X.env))) elt te)
    (hfs : ∀ x, foldedSetIterable iter X.env x = pure x := by intro _; rfl) :
    PE X (.ListComp elt [⟨tg, iter, ifs, 0⟩] scope pos) (tLc wi g tt te (own.map (·.2))) := by
  refine ⟨fun pins s σ H Q I h => ?_⟩
  rw [eval_ListComp]
  have hcell : ∀ y ∈ scope.names, y.2 = .free → ∃ c, X.env.cells.lookup y.1 = some c := by
    intro y hy e
    exact (ok.free y hy e).elim (fun k => I.ok.has _ (.inl k)) (fun k => I.ok.has _ (.inr k))
  refine comprehension_at (use := none) rfl hfs (closure_ok hcell) ok.kind (fun y hy e => (ok.uniq y hy).trans (congrArg some e)) ?_
  refine thn (hi.run pins s σ H _ I h) fun _ _ hx => thn hx fun _ sA hA => ?_
  obtain ⟨it, fp, tn, J, HA, rfl, IA, TA, stA, fpA, qA⟩ := hA
  refine wpAny_newObj_type (newEnv_comp ?_) (Nat.zero_le _)
  obtain ⟨D, hD⟩ : ∃ D, D = sA.heap.objs.size := ⟨_, rfl⟩
  have dn : HA D = none := IA.hok.fresh (Nat.le_of_eq hD.symm)
  obtain ⟨WI, ⟨mI, wI⟩, turn⟩ := qA D dn
  obtain ⟨sB, hsB⟩ : ∃ sB : Shared, sB = { sA with heap := sA.heap.push { cls := .type "list", data := .seq ([] : List Value).toArray } } := ⟨_, rfl⟩
  have hB : sB.heap = sA.heap.push { cls := .type "list", data := .seq ([] : List Value).toArray } := by rw [hsB]
  have zB : sB.heap.objs.size = sA.heap.objs.size + 1 := by rw [hB, Heap.size_push]
  obtain ⟨HB, hHB⟩ : ∃ HB, HB = upd HA D (.lst []) := ⟨_, rfl⟩
  have IB : Inv X pins σ HB sB := by
    rw [hsB, hHB]
    exact IA.laid (t' := sA.toks) (fun b o e => Heap.get?_push_of_some _ e) (Nat.le_of_eq hD.symm) ⟨Nat.zero_le _, [], 0, .nil, by rw [hD]; exact Heap.get?_push_size _ rfl⟩
  have below : ∀ b ∈ fp, b < sA.heap.objs.size := fun b hb => (TA.obj _ _ stA b hb).elim fun o e => Heap.lt_size e.1
  have fpB : ∀ b ∈ fp, FpOk X pins HB b ∧ b < sB.heap.objs.size := fun b hb => by
    have lt := below b hb
    refine ⟨⟨?_, (fpA b hb).2⟩, zB ▸ Nat.lt_succ_of_lt lt⟩
    rw [hHB, upd_ne (by rw [hD]; exact Nat.ne_of_lt lt)]
    exact (fpA b hb).1
  have stB : tn 0 sB.heap := TA.keep _ _ _ stA fun b _ o e => by rw [hB]; exact Heap.get?_push_of_some _ e
  have IC := block_start IB ok hN fpB
  obtain ⟨ce, hce⟩ : ∃ ce, ce = compEnvC scope (cellsFrom (sB.heap.objs.size + 1) scope.names (cloFrom X.env.cells scope.names [])) sB.heap.objs.size X.env := ⟨_, rfl⟩
  have cL : ce.locals = sB.heap.objs.size := by rw [hce]; rfl
  have cF : ce.frame = X.env.frame := by rw [hce]; rfl
  have chB : ∀ b ∈ fp, (b ∈ X.ex ∨ X.s_0.heap.objs.size ≤ b) ∧ b ≠ X.env.locals ∧ (∀ x c, X.env.cells.lookup x = some c → c ≠ b) ∧ ∀ p ∈ X.pn ++ pins, p.1 ≠ b :=
    fun b hb => ⟨(fpB b hb).1.2.2.2.1, (fpB b hb).1.2.1, (fpB b hb).1.2.2.2.2.1, (fpB b hb).1.2.2.2.2.2⟩
  have pass : ∀ τ, PassesAt (L2.CX X.prog X.w) ((X.blk sB HB scope ce fp).wish (blkX X ce)) τ E := fun τ => blk_pass hs hf tk cF IB (Nat.le_of_eq cL.symm) chB τ
  have pgB := hg sB HB sB.heap.objs.size (cellsFrom (sB.heap.objs.size + 1) scope.names (cloFrom X.env.cells scope.names [])) fp
  have ptB := ht sB HB sB.heap.objs.size (cellsFrom (sB.heap.objs.size + 1) scope.names (cloFrom X.env.cells scope.names [])) fp
  have peB := he sB HB sB.heap.objs.size (cellsFrom (sB.heap.objs.size + 1) scope.names (cloFrom X.env.cells scope.names [])) fp
  rw [← hce] at IC pgB ptB peB
  have peB := peB pass
  have main : codeAny (model X.prog X.w) X.A (.compStart (.ListComp elt [⟨tg, iter, ifs, 0⟩] scope pos) 0 (.ref it) (.ref D) ce) (compEnds (model X.prog X.w) X.A X.xe none (EP X pins σ Q) (.ref D) ce)
      { sB with heap := pushCells (sB.heap.push { cls := .type "dict", data := .dict #[] }) scope.names } := by
    obtain ⟨sC, hsC⟩ : ∃ sC : Shared, sC = { sB with heap := pushCells (sB.heap.push { cls := .type "dict", data := .dict #[] }) scope.names } := ⟨_, rfl⟩
    rw [← hsC] at IC ⊢
    have stC : tn 0 sC.heap := TA.keep _ _ _ stB fun b _ o e => by rw [hsC]; exact pushCells_keeps _ _ _ _ (Heap.get?_push_of_some _ e)
    have still : ∀ {τ : L2.St} {G : Hp} {t : Shared}, Inv (X.blk sB HB scope ce fp) [] τ G t → (∀ b ∈ fp, G b = none) → ∀ b ∈ fp, FpOk (X.blk sB HB scope ce fp) [] G b := by
      intro τ G t J0 z b hb
      have ex := J0.ok.exf b hb
      exact ⟨z b hb, ex.1, J0.ok.exfs b hb, .inl hb, fun x c e => ex.2 x c e, fun p hp => nomatch (show p ∈ ([] : List (Addr × Obj)) from hp)⟩
    have loop : codeAny (model X.prog X.w) X.A (.compLoop (.ListComp elt [⟨tg, iter, ifs, 0⟩] scope pos) 0 (.ref it) (.ref D) ce) (compEnds (model X.prog X.w) X.A X.xe none (EP X pins σ Q) (.ref D) ce) sC := by
      refine compLoop_any (fun k t => ∃ i G, Inv (X.blk sB HB scope ce fp) [] (L2.wipe σ (own.map (·.2))) G t ∧ tn i t.heap ∧ (∀ b ∈ fp, G b = none) ∧ WI i k G) ?_ mI ⟨0, HB, IC, stC, fun b hb => (fpB b hb).1.1, hHB ▸ wI⟩
      rintro k sD ⟨i, GD, ID, stD, nD, wD⟩
      rcases turn i k GD wD with ⟨stop, qq⟩ | ⟨go, Nx, hNx, step⟩
      · refine thnF (TA.done (X.blk sB HB scope ce fp) rfl rfl rfl hc i [] sD _ GD (fun _ _ => False) ID (still ID nD) stD stop) fun r t hr => ?_
        obtain ⟨rfl, It⟩ := hr
        have IX : Inv X pins σ GD t := IB.call' (ch := fp) It.os It.base It.hok It.bare chB
        obtain ⟨m, hn, _⟩ := It.loc
        obtain ⟨f0, f1, _, f3, f4, f5⟩ := IB.fpOk (H' := GD) (b := ce.locals) (Nat.le_of_eq cL.symm) It.free
        exact ⟨m, hn, fun h'' sb => ⟨.ref D, GD, IX.turned (t' := t.toks) (fun b o hb e => (sb.2 b hb).trans e) f0 f1 f3 f4 f5, rfl, qq⟩⟩
      · refine thnF (TA.item (X.blk sB HB scope ce fp) rfl rfl rfl hc i [] sD _ GD (fun _ _ => False) ID (still ID nD) stD go) fun r t hr => ?_
        obtain ⟨u, rfl, ht0⟩ := hr
        refine thnF ht0 fun _ t1 hx1 => ?_
        obtain ⟨x, G1, J1, r1, y1, st1, n1⟩ := hx1
        refine thnF (pgB.run _ t1 _ G1 x u _ (J1.pinned (still J1 n1) (TA.obj _ _ st1)) r1 (step x G1 y1)) fun _ t2 hx2 => ?_
        obtain ⟨τ, G2, J2, hw, q2⟩ := hx2
        refine thnF (ptB.run _ t2 τ G2 _ J2 q2) fun b t3 hx3 => ?_
        obtain ⟨G3, J3, q3⟩ := hx3
        have fin : ∀ {t4 : Shared} {G4 : Hp}, Inv (X.blk sB HB scope ce fp) ([] ++ pinsAt fp t1.heap) τ G4 t4 → Nx G4 → ∃ m, m < k ∧ ∃ i G, Inv (X.blk sB HB scope ce fp) [] (L2.wipe σ (own.map (·.2))) G t4 ∧ tn i t4.heap ∧ (∀ b ∈ fp, G b = none) ∧ WI i m G := by
          intro t4 G4 J4 nx
          obtain ⟨m, lt, w4⟩ := hNx G4 nx
          have pin4 : ∀ b ∈ fp, ∀ o, t1.heap.get? b = some o → t4.heap.get? b = some o ∧ G4 b = none := by
            intro b hb o e
            have z := J4.pin (b, o) (List.mem_append_right _ (List.mem_append_right _ (mem_pinsAt hb e)))
            exact ⟨z.1, z.2.1⟩
          refine ⟨m, lt, i + 1, G4, (J4.unpinned (pins := [])).weak (by rw [← hw, wipe_length]) (fun j v e => ?_), TA.keep _ _ _ st1 (fun b hb o e => (pin4 b hb o e).1), (fun b hb => ?_), w4⟩
          · rw [← hw] at e
            exact (wipe_some e).1
          · obtain ⟨o, e, _⟩ := TA.obj _ _ st1 b hb
            exact (pin4 b hb o e).2
        cases b with
        | false => exact fin J3 q3
        | true =>
          refine wpAny_mono (peB.run _ t3 τ G3 _ (J3.wish _) q3) (fun v t4 hx4 => ?_) fun _ _ z => z
          obtain ⟨yv, G4, J4, r4, acc, hD4, hz4, nx⟩ := hx4
          exact app_ok (X := X.blk sB HB scope ce fp) J4.unwish hD4 hz4 r4 fun t5 J5 => fin J5 nx
    exact codeAny_compStart_list loop (TA.self X.A 0 _ _ _ stC loop)
  subst hce hsB hD
  exact main
end
section
variable {K : PySem.W.Frag} {F0 H0 F H F' H' F1 : Hp} {env env' : En} {α β : Type} [ToD α] [ToD β] {te : TE} {tt : TT} {σ : L2.St}
theorem ev_compE {E : XK} {wi : TI} {g : TG} {m : Res (List α)} {fe : α → En → En} {ws : List Nat} {tst : α → Res Bool} {el : α → Res β} (hi : EvI K (W0 E) env wi m) (hg : ∀ x, GX K g (toD x) (fe x) ws)
    (ht : ∀ x, EvT K WT (fe x (unset ws env)) tt (tst x)) (he : ∀ x, EvX K (W0 E) (fe x (unset ws env)) te (el x)) :
    EvN K (W0 E) env (tLc wi g tt te ws) (m.bind fun xs => .need (xs.length ≤ 16777216) (compL tst el xs)) := fun F0 H0 F H σ Q S k => by
  refine hi F0 H0 F H σ _ S ?_
  cases m with
  | exc c => exact k
  | stuck => exact k.elim
  | ok xs =>
  intro J F1 H1 a1 js D hD
  have k : KN K (W0 E) F H σ Q (.need (xs.length ≤ 16777216) (compL tst el xs)) := k
  by_cases c : xs.length ≤ 16777216
  case neg => rw [Res.need_neg c] at k; exact k.elim
  rw [Res.need_pos c] at k
  have hn : (xs.map toD).length = xs.length := List.length_map ..
  have hDF : F1 D = none := none_of_ex a1.in_ hD
  have hDH : H D = none := Evl.fresh_back a1.h hD
  have hD0 : H0 D = none := Evl.fresh_back S.adv.h hDH
  -- the new list is none of the slots'
  have hne : ∀ (i : Nat) (sk : Sk), env[i]? = some (some sk) → sk.own = true → σ[i]? ≠ some (some (V.ref D)) := fun i sk e ho z => by
    obtain ⟨v, e1, q⟩ := S.slot i _ e
    obtain ⟨p, o, rfl, _, _, q⟩ := q.at ho
    rw [e1] at z; cases z
    rw [hDH] at q; cases q
  have S1 : Sl K F0 H0 F1 (upd H1 D (.lst [])) σ env := (S.step a1).updN hDF hD0 hne
  refine ⟨fun i n H' => n = xs.length - i ∧ i ≤ xs.length ∧ ∃ F' acc vs, Sl K F0 H0 F' H' σ env ∧ Adv F H F' H' ∧ Ex F1 F' ∧ F' D = none ∧ H' D = some (.lst vs) ∧ Reps K F' (acc.map toD) vs ∧ acc.length ≤ i ∧
    (∀ ys, compL tst el (xs.drop i) = .ok ys → compL tst el xs = .ok (acc ++ ys)) ∧ (∀ c, compL tst el (xs.drop i) = .exc c → compL tst el xs = .exc c) ∧ (compL tst el (xs.drop i) = .stuck → compL tst el xs = .stuck),
    ⟨xs.length, rfl, Nat.zero_le _, F1, ([] : List β), [], S1, a1.trans (Adv.newO a1.in_ hD), Ex.refl _, hDF, upd_same, (show Reps K F1 [] [] from rfl), Nat.le_refl _, fun ys h => h, fun c h => h, fun h => h⟩, ?_⟩
  rintro i n H2 ⟨rfl, hle, F2, acc, vs, S2, a2, x2, f2, h2, r2, l2, q1, q2, q3⟩
  by_cases hlt : i < xs.length
  · refine .inr ⟨js.go i H2 (x2.trans a2.in_) (by rw [hn]; exact hlt), fun H' => (i + 1 ≤ xs.length ∧ ∃ F' acc vs, Sl K F0 H0 F' H' σ env ∧ Adv F H F' H' ∧ Ex F1 F' ∧ F' D = none ∧ H' D = some (.lst vs) ∧ Reps K F' (acc.map toD) vs ∧ acc.length ≤ i + 1 ∧
      (∀ ys, compL tst el (xs.drop (i + 1)) = .ok ys → compL tst el xs = .ok (acc ++ ys)) ∧ (∀ c, compL tst el (xs.drop (i + 1)) = .exc c → compL tst el xs = .exc c) ∧ (compL tst el (xs.drop (i + 1)) = .stuck → compL tst el xs = .stuck)),
      fun H' w => ⟨_, by omega, rfl, w⟩, fun v H3 hy => ?_⟩
    obtain ⟨F3, x, a3, ex, rx⟩ := js.yld i H2 v H3 F2 x2 a2.in_ (by rw [hn]; exact hlt) hy
    rw [List.getElem?_map, List.getElem?_eq_getElem hlt] at ex
    cases ex
    have e : xs.drop i = xs[i] :: xs.drop (i + 1) := List.drop_eq_getElem_cons hlt
    rw [e] at q1 q2 q3
    have S3 := S2.step a3
    refine hg xs[i] F0 H0 F3 H3 _ _ v _ (S3.wipe ws) rx fun σ' S' sl so => ⟨wipe_eq sl so, ?_⟩
    have f3 : F3 D = none := a3.out D f2 (by rw [h2]; simp)
    refine ht xs[i] F0 H0 F3 H3 σ' _ S' ?_
    cases qt : tst xs[i] with
    | exc c => exact fun _ _ _ => trivial
    | stuck =>
      have := q3 (by show (tst xs[i]).bind _ = _; rw [qt]; rfl)
      rw [this] at k; exact k.elim
    | ok b =>
    intro F4 H4 a4
    have f4 : F4 D = none := a4.out D f3 (by rw [a3.h _ _ h2]; simp)
    cases b with
    | false =>
      show i + 1 ≤ xs.length ∧ _
      refine ⟨hlt, F4, acc, vs, S3.step a4, (a2.trans a3).trans a4, (x2.trans a3.f).trans a4.f, f4, a4.h _ _ (a3.h _ _ h2), Reps.mono (a3.trans a4).f _ _ r2, by omega, fun ys h => ?_, fun c h => ?_, fun h => ?_⟩
      · exact q1 ys (by show (tst xs[i]).bind _ = _; rw [qt]; exact h)
      · exact q2 c (by show (tst xs[i]).bind _ = _; rw [qt]; exact h)
      · exact q3 (by show (tst xs[i]).bind _ = _; rw [qt]; exact h)
    | true =>
      show te σ' H4 _
      refine he xs[i] F0 H0 F4 H4 σ' _ (S'.step a4) ?_
      cases qe : el xs[i] with
      | exc c =>
        have := q2 c (by show (tst xs[i]).bind _ = _; rw [qt]; show (el xs[i]).bind _ = _; rw [qe]; rfl)
        rw [this] at k
        exact fun F' H' b => k F' H' (((a2.trans a3).trans a4).trans b)
      | stuck =>
        have := q3 (by show (tst xs[i]).bind _ = _; rw [qt]; show (el xs[i]).bind _ = _; rw [qe]; rfl)
        rw [this] at k; exact k.elim
      | ok y =>
      intro w F5 H5 a5 r5
      have f5 : F5 D = none := a5.out D f4 (by rw [a4.h _ _ (a3.h _ _ h2)]; simp)
      have h5 : H5 D = some (.lst vs) := a5.h _ _ (a4.h _ _ (a3.h _ _ h2))
      have ad := ((a2.trans a3).trans a4).trans a5
      refine ⟨vs, h5, by rw [sizeLine_eq, ← r2.length, List.length_map]; omega, hlt, F5, acc ++ [y], vs ++ [w], ((S3.step a4).step a5).updN f5 hD0 hne, ⟨ad.f, fun a u q => ?_, fun a u q => ?_, ad.out⟩,
        ((x2.trans a3.f).trans a4.f).trans a5.f, f5, upd_same, ?_, by rw [List.length_append]; simp; omega, fun ys h => ?_, fun c h => ?_, fun h => ?_⟩
      · rw [upd_ne (ne_of_none q hDH)]; exact ad.h a u q
      · rw [upd_ne (ne_of_none q f5)]; exact ad.in_ a u q
      · rw [List.map_append]
        exact Reps.append (Reps.mono ((a3.trans a4).trans a5).f _ _ r2) (Reps.one r5)
      · rw [q1 (y :: ys) (by show (tst xs[i]).bind _ = _; rw [qt]; show (el xs[i]).bind _ = _; rw [qe]; show (compL tst el _).bind _ = _; rw [h]; rfl)]
        rw [List.append_assoc]; rfl
      · exact q2 c (by show (tst xs[i]).bind _ = _; rw [qt]; show (el xs[i]).bind _ = _; rw [qe]; show (compL tst el _).bind _ = _; rw [h]; rfl)
      · exact q3 (by show (tst xs[i]).bind _ = _; rw [qt]; show (el xs[i]).bind _ = _; rw [qe]; show (compL tst el _).bind _ = _; rw [h]; rfl)
  · have e : xs.drop i = [] := List.drop_of_length_le (by omega)
    rw [e] at q1
    have := q1 [] rfl
    rw [List.append_nil] at this
    rw [this] at k
    exact .inl ⟨js.stop i H2 (x2.trans a2.in_) (by rw [hn]; omega), k D vs F2 H2 a2 hDH f2 h2 r2⟩
end
noncomputable def compL2G {α β γ : Type} (it : α → Res (List β)) (el : α → β → γ) : List α → List γ → Res (List γ)
  | [], acc => .ok acc
  | x :: xs, acc => (it x).bind fun ys => .need (acc.length + ys.length ≤ 16777216) (compL2G it el xs (acc ++ ys.map (el x)))
section
variable {K : PySem.W.Frag} {env : En} {te : TE} {α β γ : Type} [ToD α] [ToD β] [ToD γ]
end
/-! ### a name that a loop sets, and that is read behind it -/
abbrev lateM {α : Type} [ToD α] (o : Option α) : Option Sk := o.bind iM
end Mi
set_option maxHeartbeats 4000000
namespace Mi
open PySem PySem.Spec L2 PyProof.Rows
open Evl (Ex)
def rRepTA (K : PySem.W.Frag) : R2 := fun x y H Q => ∃ a k xs, x = .ref a ∧ y = .int k ∧ SqT K H a xs ∧ xs ≠ [] ∧ 0 ≤ k ∧ k ≤ 1000 ∧ xs.length ≤ 1000 ∧ (k = 1 → Q (.ref a) H) ∧
  (k ≠ 1 → ∀ p, H p = none → Q (.ref p) (upd H p (.tup (List.replicate k.toNat xs).flatten)))
section
variable {K : PySem.W.Frag} {α : Type} [ToD α]
end

/-! ### an owned list, inserted into and popped at a place -/
section
variable {K : PySem.W.Frag} {W : WX} {F0 H0 : Hp} {rt : VK} {PT : En → Prop} {env : En} {τ β : Type} [ToD τ] [ToR τ] [ToD β] {KP : Res τ → Prop} {Z : Ends} {te ti : TE}
end

/-! ### values read as lists of texts, as lists of pairs of texts with two values behind -/
def mapR {α : Type} (f : D → Res α) : List D → Res (List α)
  | [] => .ok []
  | x :: r => (f x).bind fun y => (mapR f r).bind fun ys => .ok (y :: ys)
def D.asStrs : D → Res (List Str)
  | .lst xs => mapR D.asStr xs
  | _ => .stuck
def D.asS2 : D → Res (T4 Str Str D D)
  | .tup [.str a, .str b, c, d] => .ok ⟨a, b, c, d⟩
  | _ => .stuck
def D.asS2s : D → Res (List (T4 Str Str D D))
  | .lst xs => mapR D.asS2 xs
  | _ => .stuck
/-- the empty tuple -/
structure T0 where
instance : ToD T0 := ⟨fun _ => .tup []⟩
/-! ### a new list, its items as values of any kind -/
section
variable {K : PySem.W.Frag} {W : WX} {env : En} {te : TE} {α : Type} [ToD α]
end

/-! ### two tuples of any length joined, neither empty -/
section
variable {K : PySem.W.Frag} {α : Type} [ToD α]
end

/-! ### an owned list cut, and joined with another list -/
section
variable {K : PySem.W.Frag} {W : WX} {env : En} {α : Type} [ToD α] {tb : TE}
end

/-! ### where a text first stands in a list of texts -/
def sfind : List Str → Str → Option Nat
  | [], _ => none
  | x :: r, y => if x = y then some 0 else (sfind r y).map (· + 1)
section
variable {K : PySem.W.Frag} {W : WX} {env : En} {to te : TE}
end

/-- a tuple of four values -/
def D.asT4 : D → Res (T4 D D D D)
  | .tup [a, b, c, d] => .ok ⟨a, b, c, d⟩
  | _ => .stuck
end Mi
set_option maxHeartbeats 4000000
namespace Mi
open PySem PySem.Spec L2 PyProof.Rows
open Evl (Ex)
/-! ### a number below 256 in two small digits -/
def dgc (d : Nat) : Nat := if d < 10 then 48 + d else 87 + d
def hex2 (n : Nat) : Str := ⟨#[dgc (n / 16), dgc (n % 16)]⟩
theorem fxRet {M : Model} {A : Around} {E : Value → Shared → Prop} {s : Shared} {S T : PySem.Str} {Q : PySem.Fin → Shared → Prop} (e : S = T) (hL : T.length ≤ sizeLine) (h : ∀ t k, Q (.done (.ret (.str T t))) { s with toks := k }) : wpAny M A (retStr S) Q E s := by
  subst e
  exact wpAny_bind (wpAny_mkStr (wpAny_pure (h _ _)) hL)
open PySem.W in
theorem fmt02x (n : Nat) (h : n < 256) (t u : Tok) : Meets (Builtin.«int.__format__» ⟨[.int (n : Int) t, .str ("02x" : Str) u], []⟩) (fun _ R s => ∀ t' k, R (.ok (.ret (.str (hex2 n) t'))) { s with toks := k }) := by
  apply KPc.meets_of
  intro _ _ _ _ _ _ hq
  unfold Builtin.«int.__format__»
  refine wpAny_bind (wpAny_of_eq (a := (_, _)) rfl ?_)
  refine wpAny_bind (wpAny_of_eq (a := _) rfl ?_)
  kxf_if
  refine wpAny_bind (wpAny_typeNameOf (T := "str") (typeIs_str _ _ _) (by decide) fun _ => ?_)
  refine wpAny_bind (wpAny_of_eq (a := some _) rfl ?_)
  kxf_if
  kxf_if
  refine wpAny_bind (wpAny_typeNameOfCut_int ?_)
  (repeat kxf_if)
  show wpAny _ _ (retStr _) _ _ _
  refine fxRet (T := hex2 n) ?_ (by show 2 ≤ sizeLine; rw [sizeLine_eq]; decide) (fun t k => hq t k)
  clear hq
  revert n
  decide +kernel

section
variable {X : Cx}
/-- {x:02x}, x below 256 -/
def tFmtX (te ts : TE) : TE := fun σ H Q => te σ H fun x H1 => ts σ H1 fun r H2 => r = .str ("02x" : Str) ∧ ∃ n : Nat, x = .int (n : Int) ∧ n < 256 ∧ Q (.str (hex2 n)) H2
theorem pe_fmtX {e sp : Expr} {te ts : TE} {pos : Pos} (he : PE X e te) (hs : PE X sp ts) : PE X (.FormattedValue e (-1) (some sp) pos) (tFmtX te ts) := by
  refine ⟨fun pins s σ H Q I h => ?_⟩
  refine wpAny_FormattedValue_spec (thn (he.run pins s σ H _ I h) fun v s1 hv => ?_)
  obtain ⟨x, H1, I1, r1, q⟩ := hv
  refine thn (hs.run pins s1 σ H1 _ I1 q) fun r s2 hr => ?_
  obtain ⟨y, H2, I2, r2, rfl, n, rfl, hn, q⟩ := hr
  obtain ⟨t, rfl⟩ := r1
  obtain ⟨t2, rfl⟩ := r2
  refine ⟨_, t2, rfl, ?_⟩
  exact PySem.W.KXf.field_int (spec' := ("02x" : Str)) rfl (by decide +kernel) (by show 3 ≤ sizeLine; rw [sizeLine_eq]; decide) (fun u => fmt02x n hn t u) fun t' k => ⟨.str (hex2 n), H2, I2.tok _, ⟨_, rfl⟩, q⟩
end
section
variable {K : PySem.W.Frag} {W : WX} {env : En} {te to : TE}
theorem ev_fmtX {m : Res Int} (h : EvX K W env te m) : EvX K W env (tFmtX te (tC (.str ("02x" : Str)))) (m.bind fun i => .need (0 ≤ i ∧ i < 256) (.ok (hex2 i.toNat))) := fun F0 H0 F H σ Q S k => by
  refine h F0 H0 F H σ _ S (KE.cut S.ex k fun i v F1 H1 e1 a1 r1 k1 => ?_)
  cases (show v = V.int i from r1)
  by_cases c : 0 ≤ i ∧ i < 256
  · rw [Res.need_pos c] at k1
    exact ⟨rfl, i.toNat, by rw [Int.toNat_of_nonneg c.1], by omega, k1 _ F1 H1 (Adv.refl a1.in_) rfl⟩
  · rw [Res.need_neg c] at k1; exact k1.elim
def sg (x : Str) : Nat := x.cps.getD 0 0
theorem sg_of {x : Str} (h : x.length = 1) : x = ⟨#[sg x]⟩ := by
  cases x with
  | mk c =>
    have h : c.size = 1 := h
    show Str.mk c = Str.mk #[c.getD 0 0]
    congr 1
    apply Array.ext
    · rw [h]; rfl
    · intro i h1 h2
      have : i = 0 := by omega
      subst this
      simp [Array.getD, h1]
theorem opx_ninSg : OpX K (fun x y H Q => ∃ (c : Nat) (z : Str), x = .str ⟨#[c]⟩ ∧ y = .str z ∧ Q (.bl (!decide (c ∈ z.cps.toList))) H) (fun (x y : Str) => .need (x.length = 1) (.ok (!decide (sg x ∈ y.cps.toList)))) := fun F H x y v u Q e h1 h2 k => by
  by_cases c : x.length = 1
  · simp only [Res.need_pos c] at k
    exact ⟨sg x, y, by rw [← sg_of c]; exact h1, h2, k _ F H (Adv.refl e) rfl⟩
  · simp only [Res.need_neg c] at k
    exact k.elim
/-- where a text first stands in a text -/
def tfind (a b : Str) : Option Nat := (Builtin.Str.occurrences a b 0 a.length 1).head?
theorem ev_tindex {m1 m2 : Res Str} (h1 : EvX K W env to m1) (h2 : EvX K W env te m2) :
    EvX K W env (tM1 (fun x xs H Q => ∃ a b i rest, x = .str a ∧ xs = [.str b] ∧ Builtin.Str.occurrences a b 0 a.length 1 = i :: rest ∧ Q (.int (i : Nat)) H) to te) (m1.bind fun a => m2.bind fun b => match tfind a b with | some i => .ok ((i : Nat) : Int) | none => .stuck) := fun F0 H0 F H σ Q S k => by
  refine h1 F0 H0 F H σ _ S (KE.cut S.ex k fun a v F1 H1 e1 a1 r1 k1 => ?_)
  have ev : v = V.str a := r1
  subst ev
  refine ⟨⟨a, rfl⟩, ?_⟩
  refine h2 F0 H0 F1 H1 σ _ (S.step a1) (KE.cut a1.in_ k1 fun b u F2 H2 e2 a2 r2 k2 => ?_)
  have eu : u = V.str b := r2
  subst eu
  cases q : Builtin.Str.occurrences a b 0 a.length 1 with
  | nil =>
    have : tfind a b = none := by unfold tfind; rw [q]; rfl
    rw [this] at k2; exact k2.elim
  | cons i rest =>
    have : tfind a b = some i := by unfold tfind; rw [q]; rfl
    rw [this] at k2
    exact ⟨a, b, i, rest, rfl, rfl, q, k2 _ F2 H2 (Adv.refl a2.in_) rfl⟩
end
end Mi
set_option maxHeartbeats 4000000
namespace Mi
open PySem PySem.Spec L2
def topS (i : Nat) : Stmt := PySem.Challenge.pw_curveseal_k01_digits_and_codes.main.body.getD i (.Pass ⟨0, 0, 0, 0⟩)

abbrev s_is_whole : Stmt := topS 7
theorem sc_is_whole : FnScope ["value"] ["value"] (defScope s_is_whole) := ⟨rfl, rfl, rfl, by decide +kernel, rfl, by decide +kernel, by decide +kernel⟩
abbrev s_to_digits : Stmt := topS 8
theorem sc_to_digits : FnScope ["data", "byte"] ["data"] (defScope s_to_digits) := ⟨rfl, rfl, rfl, by decide +kernel, rfl, by decide +kernel, by decide +kernel⟩
abbrev s_from_digits : Stmt := topS 9
theorem sc_from_digits : FnScope ["text", "halves", "character", "at"] ["text"] (defScope s_from_digits) := ⟨rfl, rfl, rfl, by decide +kernel, rfl, by decide +kernel, by decide +kernel⟩
abbrev s_u_digit : Stmt := topS 10
theorem sc_u_digit : FnScope ["character"] ["character"] (defScope s_u_digit) := ⟨rfl, rfl, rfl, by decide +kernel, rfl, by decide +kernel, by decide +kernel⟩
abbrev s_is_bytes : Stmt := topS 11
theorem sc_is_bytes : FnScope ["value", "item"] ["value"] (defScope s_is_bytes) := ⟨rfl, rfl, rfl, by decide +kernel, rfl, by decide +kernel, by decide +kernel⟩
abbrev s_ascii_codes : Stmt := topS 12
theorem sc_ascii_codes : FnScope ["text", "codes", "code", "character"] ["text"] (defScope s_ascii_codes) := ⟨rfl, rfl, rfl, by decide +kernel, rfl, by decide +kernel, by decide +kernel⟩
abbrev s_u_law_cell : Stmt := topS 14
theorem sc_u_law_cell : FnScope ["script", "k"] ["script", "k"] (defScope s_u_law_cell) := ⟨rfl, rfl, rfl, by decide +kernel, rfl, by decide +kernel, by decide +kernel⟩
abbrev s_u_law_bytes : Stmt := topS 16
theorem sc_u_law_bytes : FnScope ["cell", "salt", "count", "rest", "data", "k", "state"] ["cell", "salt", "count"] (defScope s_u_law_bytes) := ⟨rfl, rfl, rfl, by decide +kernel, rfl, by decide +kernel, by decide +kernel⟩
abbrev s_u_law_digits : Stmt := topS 18
theorem sc_u_law_digits : FnScope [] [] (defScope s_u_law_digits) := ⟨rfl, rfl, rfl, by decide +kernel, rfl, by decide +kernel, by decide +kernel⟩
abbrev s_u_law_percent : Stmt := topS 19
theorem sc_u_law_percent : FnScope [] [] (defScope s_u_law_percent) := ⟨rfl, rfl, rfl, by decide +kernel, rfl, by decide +kernel, by decide +kernel⟩
abbrev s_u_law_chars : Stmt := topS 20
theorem sc_u_law_chars : FnScope ["signs"] [] (defScope s_u_law_chars) := ⟨rfl, rfl, rfl, by decide +kernel, rfl, by decide +kernel, by decide +kernel⟩
abbrev s_u_law_told : Stmt := topS 21
theorem sc_u_law_told : FnScope ["text", "which", "e"] ["text", "which"] (defScope s_u_law_told) := ⟨rfl, rfl, rfl, by decide +kernel, rfl, by decide +kernel, by decide +kernel⟩
abbrev s_u_law_due : Stmt := topS 22
theorem sc_u_law_due : FnScope ["text", "data", "k"] ["text"] (defScope s_u_law_due) := ⟨rfl, rfl, rfl, by decide +kernel, rfl, by decide +kernel, by decide +kernel⟩
abbrev s_u_law_right_kinds : Stmt := topS 23
theorem sc_u_law_right_kinds : FnScope ["cell", "data", "values"] ["cell", "data"] (defScope s_u_law_right_kinds) := ⟨rfl, rfl, rfl, by decide +kernel, rfl, by decide +kernel, by decide +kernel⟩
abbrev s_law : Stmt := topS 24
theorem sc_law : FnScope ["script", "data", "handed", "text", "due", "other", "signs", "codes", "at", "bad", "sign", "byte"] ["script"] (defScope s_law) := ⟨rfl, rfl, rfl, by decide +kernel, rfl, by decide +kernel, by decide +kernel⟩
def errs : List Str := ["CurveError", "OutOfRange", "Malformed"]
def ancE : List (Str × List Str) := [("CurveError", ["CurveError"]), ("OutOfRange", ["OutOfRange", "CurveError"]), ("Malformed", ["Malformed", "CurveError"])]
def subE (c d : Str) : Bool := match ancE.lookup c with | some l => decide (d ∈ l) | none => false
def k_DIGITS : Str := ("0123456789abcdef" : Str)
def fileS : Str := PySem.Challenge.pw_curveseal_k01_digits_and_codes.main.file
/-! ### the head -/
def dfs : List He.DefD := [⟨("is_whole", none), "is_whole", "is_whole", defArgs s_is_whole, defBody s_is_whole, defScope s_is_whole, [], []⟩, ⟨("to_digits", none), "to_digits", "to_digits", defArgs s_to_digits, defBody s_to_digits, defScope s_to_digits, [], []⟩, ⟨("from_digits", none), "from_digits", "from_digits", defArgs s_from_digits, defBody s_from_digits, defScope s_from_digits, [], []⟩, ⟨("_digit", none), "_digit", "_digit", defArgs s_u_digit, defBody s_u_digit, defScope s_u_digit, [], []⟩, ⟨("is_bytes", none), "is_bytes", "is_bytes", defArgs s_is_bytes, defBody s_is_bytes, defScope s_is_bytes, [], []⟩, ⟨("ascii_codes", none), "ascii_codes", "ascii_codes", defArgs s_ascii_codes, defBody s_ascii_codes, defScope s_ascii_codes, [], []⟩, ⟨("_law_cell", none), "_law_cell", "_law_cell", defArgs s_u_law_cell, defBody s_u_law_cell, defScope s_u_law_cell, [], []⟩, ⟨("_law_bytes", none), "_law_bytes", "_law_bytes", defArgs s_u_law_bytes, defBody s_u_law_bytes, defScope s_u_law_bytes, [], []⟩, ⟨("_law_digits", none), "_law_digits", "_law_digits", defArgs s_u_law_digits, defBody s_u_law_digits, defScope s_u_law_digits, [], []⟩, ⟨("_law_percent", none), "_law_percent", "_law_percent", defArgs s_u_law_percent, defBody s_u_law_percent, defScope s_u_law_percent, [], []⟩, ⟨("_law_chars", none), "_law_chars", "_law_chars", defArgs s_u_law_chars, defBody s_u_law_chars, defScope s_u_law_chars, [], []⟩, ⟨("_law_told", none), "_law_told", "_law_told", defArgs s_u_law_told, defBody s_u_law_told, defScope s_u_law_told, [], []⟩, ⟨("_law_due", none), "_law_due", "_law_due", defArgs s_u_law_due, defBody s_u_law_due, defScope s_u_law_due, [], []⟩, ⟨("_law_right_kinds", none), "_law_right_kinds", "_law_right_kinds", defArgs s_u_law_right_kinds, defBody s_u_law_right_kinds, defScope s_u_law_right_kinds, [], []⟩, ⟨("law", none), "law", "law", defArgs s_law, defBody s_law, defScope s_law, [], []⟩]
def sus : List SupD := []
def tbs : List He.Tab := []
def fas : List He.Fa := [.glo "is_whole", .glo "to_digits", .glo "from_digits", .glo "_digit", .glo "is_bytes", .glo "ascii_codes", .glo "_law_cell", .glo "_law_bytes", .glo "_law_digits", .glo "_law_percent", .glo "_law_chars", .glo "_law_told", .glo "_law_due", .glo "_law_right_kinds", .glo "law", .glo "CurveError", .glo "OutOfRange", .glo "Malformed", .exc "Malformed", .free "abs", .free "all", .free "bool", .free "int", .free "isinstance", .free "len", .free "list", .free "ord", .free "range", .free "str", .int "PERCENT" 37, .exm "CurveError" "CurveError" true, .exm "CurveError" "OutOfRange" false, .exm "CurveError" "Malformed" false, .exm "OutOfRange" "CurveError" true, .exm "OutOfRange" "OutOfRange" true, .exm "OutOfRange" "Malformed" false, .exm "Malformed" "CurveError" true, .exm "Malformed" "OutOfRange" false, .exm "Malformed" "Malformed" true]
def cons_ : List (Str × D) := [("DIGITS", toD k_DIGITS)]
def exB (K : PySem.W.Frag) : Bool := (clsB K errs subE && conB K cons_)
abbrev Rw : PySem.W.OpenRow := PySem.W.OpenLaw.row PySem.Challenge.rw_curveseal_k01_digits_and_codes
def ads : List Addr := ([3, 6, 4, 24, 37, 49, 58, 63, 68, 75, 80, 85, 92, 99, 104, 111, 118, 125, 132, 139, 146, 153, 158, 0, 23, 36, 48, 57, 62, 67, 74, 79, 84, 91, 98, 103, 110, 117, 124, 131] : List Addr) ++ ([138, 145, 152, 157, 22, 25, 35, 47, 52, 53, 54, 55, 56, 59, 60, 61, 64, 65, 66, 69, 70, 71, 72, 73, 76, 77, 78, 81, 82, 83, 86, 87, 88, 89, 90, 93, 94, 95, 96, 97] : List Addr) ++ ([100, 101, 102, 105, 106, 107, 108, 109, 112, 113, 114, 115, 116, 119, 120, 121, 122, 123, 126, 127, 128, 129, 130, 133, 134, 135, 136, 137, 140, 141, 142, 143, 144, 147, 148, 149, 150, 151, 154, 155] : List Addr) ++ ([156, 2] : List Addr)
abbrev hk : PySem.W.Hook := hookZ ads fas dfs tbs sus exB
def ob (s : PySem.W.SharedT) : AlY := obsZ ads fas dfs tbs sus exB (HandSHeadRun.getT s)
theorem ob_eq (s : PySem.W.SharedT) : ob s = hk.obs s.abs := obsZ_eq (HandSHeadRun.getT_eq s)
/-! ### pieces -/
section
open PySem PySem.W PySem.Calls PyProof.Rows HandSHeadRun
def o0 (w : World) : Obj := oD [dE w "__name__" 1 (vS "builtins" 160), dE w "__doc__" 2 (vB "builtins.__doc__:str#opaque"), dE w "__package__" 3 (vB "builtins.__package__:str#opaque"), dE w "__loader__" 4 (vB "builtins.__loader__:shared#opaque"), dE w "__spec__" 5 (vB "builtins.__spec__#opaque"), dE w "__build_class__" 6 (vB "__build_class__"), dE w "__\x69mport__" 7 (vB "__\x69mport__"), dE w "abs" 8 (vB "abs"), dE w "all" 9 (vB "all"), dE w "any" 10 (vB "any"), dE w "ascii" 11 (vB "ascii"), dE w "bin" 12 (vB "bin"), dE w "breakpoint" 13 (vB "breakpoint"), dE w "callable" 14 (vB "callable"), dE w "chr" 15 (vB "chr"), dE w "compile" 16 (vB "compile"), dE w "delattr" 17 (vB "delattr"), dE w "dir" 18 (vB "dir"), dE w "divmod" 19 (vB "divmod"), dE w "eval" 20 (vB "eval"), dE w "exec" 21 (vB "exec"), dE w "format" 22 (vB "format"), dE w "getattr" 23 (vB "getattr"), dE w "globals" 24 (vB "globals"), dE w "hasattr" 25 (vB "hasattr"), dE w "hash" 26 (vB "hash"), dE w "hex" 27 (vB "hex"), dE w "id" 28 (vB "id"), dE w "input" 29 (vB "input"), dE w "isinstance" 30 (vB "isinstance"), dE w "issubclass" 31 (vB "issubclass"), dE w "iter" 32 (vB "iter"), dE w "aiter" 33 (vB "aiter"), dE w "len" 34 (vB "len"), dE w "locals" 35 (vB "locals"), dE w "max" 36 (vB "max"), dE w "min" 37 (vB "min"), dE w "next" 38 (vB "next"), dE w "anext" 39 (vB "anext"), dE w "oct" 40 (vB "oct"), dE w "ord" 41 (vB "ord"), dE w "pow" 42 (vB "pow"), dE w "print" 43 (vB "print"), dE w "repr" 44 (vB "repr"), dE w "round" 45 (vB "round"), dE w "setattr" 46 (vB "setattr"), dE w "sorted" 47 (vB "sorted"), dE w "sum" 48 (vB "sum"), dE w "vars" 49 (vB "vars"), dE w "None" 50 vN, dE w "Ellipsis" 51 .ellipsis, dE w "NotImplemented" 52 .notImplemented, dE w "False" 53 (.bool false), dE w "True" 54 (.bool true), dE w "bool" 55 (vT "bool"), dE w "memoryview" 56 (vT "memoryview"), dE w "bytearray" 57 (vT "bytearray"), dE w "bytes" 58 (vT "bytes"), dE w "classmethod" 59 (vT "classmethod"), dE w "complex" 60 (vT "complex"), dE w "dict" 61 (vT "dict"), dE w "enumerate" 62 (vT "enumerate"), dE w "filter" 63 (vT "filter"), dE w "float" 64 (vT "float"), dE w "frozenset" 65 (vT "frozenset"), dE w "property" 66 (vT "property"), dE w "int" 67 (vT "int"), dE w "list" 68 (vT "list"), dE w "map" 69 (vT "map"), dE w "object" 70 (vT "object"), dE w "range" 71 (vT "range"), dE w "reversed" 72 (vT "reversed"), dE w "set" 73 (vT "set"), dE w "slice" 74 (vT "slice"), dE w "staticmethod" 75 (vT "staticmethod"), dE w "str" 76 (vT "str"), dE w "super" 77 (vT "super"), dE w "tuple" 78 (vT "tuple"), dE w "type" 79 (vT "type"), dE w "zip" 80 (vT "zip"), dE w "__debug__" 81 (.bool true), dE w "BaseException" 82 (vT "BaseException"), dE w "BaseExceptionGroup" 83 (vT "BaseExceptionGroup"), dE w "Exception" 84 (vT "Exception"), dE w "GeneratorExit" 85 (vT "GeneratorExit"), dE w "KeyboardInterrupt" 86 (vT "KeyboardInterrupt"), dE w "SystemExit" 87 (vT "SystemExit"), dE w "ArithmeticError" 88 (vT "ArithmeticError"), dE w "AssertionError" 89 (vT "AssertionError"), dE w "AttributeError" 90 (vT "AttributeError"), dE w "BufferError" 91 (vT "BufferError"), dE w "EOFError" 92 (vT "EOFError"), dE w "ImportError" 93 (vT "ImportError"), dE w "LookupError" 94 (vT "LookupError"), dE w "MemoryError" 95 (vT "MemoryError"), dE w "NameError" 96 (vT "NameError"), dE w "OSError" 97 (vT "OSError"), dE w "ReferenceError" 98 (vT "ReferenceError"), dE w "RuntimeError" 99 (vT "RuntimeError"), dE w "StopAsyncIteration" 100 (vT "StopAsyncIteration"), dE w "StopIteration" 101 (vT "StopIteration"), dE w "SyntaxError" 102 (vT "SyntaxError"), dE w "SystemError" 103 (vT "SystemError"), dE w "TypeError" 104 (vT "TypeError"), dE w "ValueError" 105 (vT "ValueError"), dE w "Warning" 106 (vT "Warning"), dE w "FloatingPointError" 107 (vT "FloatingPointError"), dE w "OverflowError" 108 (vT "OverflowError"), dE w "ZeroDivisionError" 109 (vT "ZeroDivisionError"), dE w "BytesWarning" 110 (vT "BytesWarning"), dE w "DeprecationWarning" 111 (vT "DeprecationWarning"), dE w "EncodingWarning" 112 (vT "EncodingWarning"), dE w "FutureWarning" 113 (vT "FutureWarning"), dE w "ImportWarning" 114 (vT "ImportWarning"), dE w "PendingDeprecationWarning" 115 (vT "PendingDeprecationWarning"), dE w "ResourceWarning" 116 (vT "ResourceWarning"), dE w "RuntimeWarning" 117 (vT "RuntimeWarning"), dE w "SyntaxWarning" 118 (vT "SyntaxWarning"), dE w "UnicodeWarning" 119 (vT "UnicodeWarning"), dE w "UserWarning" 120 (vT "UserWarning"), dE w "BlockingIOError" 121 (vT "BlockingIOError"), dE w "ChildProcessError" 122 (vT "ChildProcessError"), dE w "ConnectionError" 123 (vT "ConnectionError"), dE w "FileExistsError" 124 (vT "FileExistsError"), dE w "FileNotFoundError" 125 (vT "FileNotFoundError"), dE w "InterruptedError" 126 (vT "InterruptedError"), dE w "IsADirectoryError" 127 (vT "IsADirectoryError"), dE w "NotADirectoryError" 128 (vT "NotADirectoryError"), dE w "PermissionError" 129 (vT "PermissionError"), dE w "ProcessLookupError" 130 (vT "ProcessLookupError"), dE w "TimeoutError" 131 (vT "TimeoutError"), dE w "IndentationError" 132 (vT "IndentationError"), dE w "_IncompleteInputError" 133 (vT "_IncompleteInputError"), dE w "IndexError" 134 (vT "IndexError"), dE w "KeyError" 135 (vT "KeyError"), dE w "ModuleNotFoundError" 136 (vT "ModuleNotFoundError"), dE w "NotImplementedError" 137 (vT "NotImplementedError"), dE w "PythonFinalizationError" 138 (vT "PythonFinalizationError"), dE w "RecursionError" 139 (vT "RecursionError"), dE w "UnboundLocalError" 140 (vT "UnboundLocalError"), dE w "UnicodeError" 141 (vT "UnicodeError"), dE w "BrokenPipeError" 142 (vT "BrokenPipeError"), dE w "ConnectionAbortedError" 143 (vT "ConnectionAbortedError"), dE w "ConnectionRefusedError" 144 (vT "ConnectionRefusedError"), dE w "ConnectionResetError" 145 (vT "ConnectionResetError"), dE w "TabError" 146 (vT "TabError"), dE w "UnicodeDecodeError" 147 (vT "UnicodeDecodeError"), dE w "UnicodeEncodeError" 148 (vT "UnicodeEncodeError"), dE w "UnicodeTranslateError" 149 (vT "UnicodeTranslateError"), dE w "ExceptionGroup" 150 (vT "ExceptionGroup"), dE w "EnvironmentError" 151 (vT "OSError"), dE w "IOError" 152 (vT "OSError"), dE w "open" 153 (vB "open"), dE w "quit" 154 (vB "builtins.quit#opaque"), dE w "exit" 155 (vB "builtins.exit#opaque"), dE w "copyright" 156 (vB "builtins.copyright#opaque"), dE w "credits" 157 (vB "builtins.credits#opaque"), dE w "license" 158 (vB "builtins.license#opaque"), dE w "help" 159 (vB "builtins.help#opaque")] 159
def o1 (w : World) : Obj := oD [dE w "builtins" 162 (vR 4), dE w "__main__" 163 (vR 5)] 2
def o2 (w : World) : Obj := ⟨vN, none, .dict [].toArray 0, [].toArray⟩
def o3 (w : World) : Obj := oD [dE w "__name__" 165 (vS "__main__" 164), dE w "__doc__" 166 vN, dE w "__package__" 167 vN, dE w "__loader__" 168 (vB "__main__.__loader__#opaque"), dE w "__spec__" 169 vN, dE w "__annotations__" 170 (vR 6), dE w "__builtins__" 171 (vR 4), dE w "__file__" 173 (vS "/claim/cut.py" 172), dE w "__cached__" 174 vN] 9
def o4 : Obj := ⟨(vT "module"), (some 0), .plain, [].toArray⟩
def o5 : Obj := ⟨(vT "module"), (some 3), .plain, [].toArray⟩
def o6 (w : World) : Obj := oD [] 0
def o7 : Obj := oT []
def o8 : Obj := oF vN []
def o9 : Obj := oF (vT "code") [(vS "<module>" 176), (vS "<module>" 177), (vS "/claim/cut.py" 178), (vI (1) 0), (vI (0) 0), (vI (0) 0), (vI (0) 0), (vI (0) 0), (vR 7), (.bool false), (vI (175) 0), (vR 8), vN, vN, vN, vN, (vI (179) 0), (vI (1) 0), (vS "/claim/cut.py" 180)]
def o10 : Obj := oP (vT "frame") [(some (vR 9)), (some (vR 3)), (some (vR 3)), none, (some (vS "__main__" 164)), none, (some (vR 0))]
def o11 : Obj := oT []
def o12 : Obj := oF vN []
def o13 : Obj := oF (vT "code") [(vS "<module>" 182), (vS "<module>" 183), (vS "/claim/cut.py" 184), (vI (1) 0), (vI (0) 0), (vI (0) 0), (vI (0) 0), (vI (0) 0), (vR 11), (.bool false), (vI (181) 0), (vR 12), vN, vN, vN, vN, (vI (185) 0), (vI (1) 0), (vS "/claim/cut.py" 186)]
def o14 : Obj := oP (vT "frame") [(some (vR 13)), (some (vR 3)), (some (vR 3)), none, (some (vS "__main__" 164)), none, (some (vR 0))]
def o3_1 (w : World) : Obj := oD [dE w "__name__" 165 (vS "law_curveseal_k01_digits_and_codes" 283), dE w "__doc__" 166 vN, dE w "__package__" 167 vN, dE w "__loader__" 168 (vB "__main__.__loader__#opaque"), dE w "__spec__" 169 vN, dE w "__annotations__" 170 (vR 6), dE w "__builtins__" 171 (vR 4), dE w "__file__" 173 (vS "/claim/cut.py" 172), dE w "__cached__" 174 vN, dE w "CurveError" 206 (vR 24), dE w "OutOfRange" 222 (vR 37), dE w "Malformed" 238 (vR 49), dE w "DIGITS" 242 (vS "0123456789abcdef" 241), dE w "PERCENT" 244 (vI (37) 243), dE w "is_whole" 251 (vR 58), dE w "to_digits" 257 (vR 63), dE w "from_digits" 263 (vR 68), dE w "_digit" 270 (vR 75), dE w "is_bytes" 276 (vR 80), dE w "ascii_codes" 282 (vR 85), dE w "_law_cell" 292 (vR 92), dE w "_law_is_integer" 299 (vR 99), dE w "_law_bytes" 305 (vR 104), dE w "_law_is_bytes" 314 (vR 111), dE w "_law_digits" 320 (vR 118), dE w "_law_percent" 326 (vR 125), dE w "_law_chars" 333 (vR 132), dE w "_law_told" 342 (vR 139), dE w "_law_due" 351 (vR 146), dE w "_law_right_kinds" 360 (vR 153), dE w "law" 366 (vR 158)] 31
def o12_1 : Obj := oF vN [(vI (2) 0), (vI (0) 0), (vR 20), (vI (4) 0), (vI (0) 0), (vR 33), (vI (6) 0), (vI (0) 0), (vR 45), (vI (11) 0), (vI (0) 0), (vR 57), (vI (13) 0), (vI (0) 0), (vR 62), (vI (15) 0), (vI (0) 0), (vR 67), (vI (20) 0), (vI (0) 0), (vR 74), (vI (24) 0), (vI (0) 0), (vR 79), (vI (26) 0), (vI (0) 0), (vR 84), (vI (33) 0), (vI (0) 0), (vR 91), (vI (37) 0), (vI (0) 0), (vR 98), (vI (39) 0), (vI (0) 0), (vR 103), (vI (55) 0), (vI (0) 0), (vR 110), (vI (62) 0), (vI (0) 0), (vR 117), (vI (64) 0), (vI (0) 0), (vR 124), (vI (66) 0), (vI (0) 0), (vR 131), (vI (69) 0), (vI (0) 0), (vR 138), (vI (78) 0), (vI (0) 0), (vR 145), (vI (87) 0), (vI (0) 0), (vR 152), (vI (92) 0), (vI (0) 0), (vR 157)]
def o15 : Obj := oT [(vT "ValueError")]
def o16 : Obj := oF (vT "builtin_function_or_method") [(vB "type.__prepare__"), (vT "type")]
def o17 (w : World) : Obj := oD [dE w "__module__" 196 (vS "curveseal.errors" 187), dE w "__qualname__" 198 (vS "CurveError" 197), dE w "__firstlineno__" 200 (vI (2) 199), dE w "__static_attributes__" 201 (vR 22)] 4
def o18 : Obj := oT []
def o19 : Obj := oF vN []
def o20 : Obj := oF (vT "code") [(vS "CurveError" 191), (vS "CurveError" 192), (vS "/claim/cut.py" 193), (vI (2) 0), (vI (0) 0), (vI (0) 0), (vI (0) 0), (vI (0) 0), (vR 18), (.bool false), (vI (181) 0), (vR 19), vN, vN, vN, vN, (vI (194) 0), (vI (2) 0), (vS "/claim/cut.py" 195)]
def o21 : Obj := oP (vT "frame") [(some (vR 20)), (some (vR 3)), (some (vR 17)), none, (some (vS "curveseal.errors" 187)), none, (some (vR 0))]
def o22 : Obj := oT []
def o23 (w : World) : Obj := oD [dE w "__module__" 196 (vS "curveseal.errors" 187), dE w "__firstlineno__" 200 (vI (2) 199), dE w "__static_attributes__" 201 (vR 22), dE w "__weakref__" 203 (vR 25), dE w "__doc__" 204 vN] 3
def o24 : Obj := ⟨(vT "type"), none, .cls ⟨.ofString "CurveError", [(vT "ValueError")], [(vR 24), (vT "ValueError"), (vT "Exception"), (vT "BaseException"), (vT "object")], 23, .ofString "CurveError", true, [], [(vR 37), (vR 49)], false, none, false⟩, [(some (vR 15)), none, (some (vS "CurveError" 189)), (some (vS "CurveError" 197)), (some (vB "ValueError.__new__")), (some (.bool true))].toArray⟩
def o25 : Obj := oF (vT "getset_descriptor") [(vS "__weakref__" 202), (vR 24), (vB "ExceptionGroup.__weakref__"), vN]
def o26 : Obj := oF (vT "super") [(vR 24), (vR 24), (vR 24)]
def o27 : Obj := oF (vT "builtin_function_or_method") [(vB "object.__init_subclass__"), (vR 24)]
def o28 : Obj := oT [(vR 24)]
def o29 : Obj := oF (vT "builtin_function_or_method") [(vB "type.__prepare__"), (vT "type")]
def o30 (w : World) : Obj := oD [dE w "__module__" 214 (vS "curveseal.errors" 187), dE w "__qualname__" 216 (vS "OutOfRange" 215), dE w "__firstlineno__" 218 (vI (4) 217), dE w "__static_attributes__" 219 (vR 35)] 4
def o31 : Obj := oT []
def o32 : Obj := oF vN []
def o33 : Obj := oF (vT "code") [(vS "OutOfRange" 209), (vS "OutOfRange" 210), (vS "/claim/cut.py" 211), (vI (4) 0), (vI (0) 0), (vI (0) 0), (vI (0) 0), (vI (0) 0), (vR 31), (.bool false), (vI (181) 0), (vR 32), vN, vN, vN, vN, (vI (212) 0), (vI (4) 0), (vS "/claim/cut.py" 213)]
def o34 : Obj := oP (vT "frame") [(some (vR 33)), (some (vR 3)), (some (vR 30)), none, (some (vS "curveseal.errors" 187)), none, (some (vR 0))]
def o35 : Obj := oT []
def o36 (w : World) : Obj := oD [dE w "__module__" 214 (vS "curveseal.errors" 187), dE w "__firstlineno__" 218 (vI (4) 217), dE w "__static_attributes__" 219 (vR 35), dE w "__doc__" 220 vN] 2
def o37 : Obj := oC (vT "type") none "OutOfRange" [(vR 24)] [(vR 37), (vR 24), (vT "ValueError"), (vT "Exception"), (vT "BaseException"), (vT "object")] 36 "OutOfRange" [(some (vR 28)), none, (some (vS "OutOfRange" 207)), (some (vS "OutOfRange" 215)), (some (vB "ValueError.__new__")), (some (.bool true))]
def o38 : Obj := oF (vT "super") [(vR 37), (vR 37), (vR 37)]
def o39 : Obj := oF (vT "builtin_function_or_method") [(vB "object.__init_subclass__"), (vR 37)]
def o40 : Obj := oT [(vR 24)]
def o41 : Obj := oF (vT "builtin_function_or_method") [(vB "type.__prepare__"), (vT "type")]
def o42 (w : World) : Obj := oD [dE w "__module__" 230 (vS "curveseal.errors" 187), dE w "__qualname__" 232 (vS "Malformed" 231), dE w "__firstlineno__" 234 (vI (6) 233), dE w "__static_attributes__" 235 (vR 47)] 4
def o43 : Obj := oT []
def o44 : Obj := oF vN []
def o45 : Obj := oF (vT "code") [(vS "Malformed" 225), (vS "Malformed" 226), (vS "/claim/cut.py" 227), (vI (6) 0), (vI (0) 0), (vI (0) 0), (vI (0) 0), (vI (0) 0), (vR 43), (.bool false), (vI (181) 0), (vR 44), vN, vN, vN, vN, (vI (228) 0), (vI (6) 0), (vS "/claim/cut.py" 229)]
def o46 : Obj := oP (vT "frame") [(some (vR 45)), (some (vR 3)), (some (vR 42)), none, (some (vS "curveseal.errors" 187)), none, (some (vR 0))]
def o47 : Obj := oT []
def o48 (w : World) : Obj := oD [dE w "__module__" 230 (vS "curveseal.errors" 187), dE w "__firstlineno__" 234 (vI (6) 233), dE w "__static_attributes__" 235 (vR 47), dE w "__doc__" 236 vN] 2
def o49 : Obj := oC (vT "type") none "Malformed" [(vR 24)] [(vR 49), (vR 24), (vT "ValueError"), (vT "Exception"), (vT "BaseException"), (vT "object")] 48 "Malformed" [(some (vR 40)), none, (some (vS "Malformed" 223)), (some (vS "Malformed" 231)), (some (vB "ValueError.__new__")), (some (.bool true))]
def o50 : Obj := oF (vT "super") [(vR 49), (vR 49), (vR 49)]
def o51 : Obj := oF (vT "builtin_function_or_method") [(vB "object.__init_subclass__"), (vR 49)]
def o52 : Obj := oT []
def o53 : Obj := oF vN []
def o54 : Obj := oT [(vS "value" 248)]
def o55 : Obj := oT []
def o56 : Obj := oU vN "is_whole" "is_whole" (topS 7) 0 [] vN vN vN none vN vN 0 []
def o57 : Obj := oF (vT "code") [(vS "is_whole" 245), (vS "is_whole" 246), (vS "/claim/cut.py" 247), (vI (11) 0), (vI (1) 0), (vI (0) 0), (vI (0) 0), (vI (3) 0), (vR 52), (.bool true), (vI (181) 0), (vR 53), vN, (vR 54), (vR 55), (vR 56), (vI (249) 0), (vI (11) 0), (vS "/claim/cut.py" 250)]
def o58 : Obj := oU (vT "function") "is_whole" "is_whole" (topS 7) 3 [] vN vN (vS "curveseal.octets" 239) none (vR 57) vN 0 []
def o59 : Obj := oT []
def o60 : Obj := oF vN []
def o61 : Obj := oU vN "to_digits" "to_digits" (topS 8) 0 [] vN vN vN none vN vN 0 []
def o62 : Obj := oF (vT "code") [(vS "to_digits" 252), (vS "to_digits" 253), (vS "/claim/cut.py" 254), (vI (13) 0), (vI (1) 0), (vI (0) 0), (vI (0) 0), (vI (3) 0), (vR 59), (.bool true), (vI (181) 0), (vR 60), vN, vN, vN, (vR 61), (vI (255) 0), (vI (13) 0), (vS "/claim/cut.py" 256)]
def o63 : Obj := oU (vT "function") "to_digits" "to_digits" (topS 8) 3 [] vN vN (vS "curveseal.octets" 239) none (vR 62) vN 0 []
def o64 : Obj := oT []
def o65 : Obj := oF vN []
def o66 : Obj := oU vN "from_digits" "from_digits" (topS 9) 0 [] vN vN vN none vN vN 0 []
def o67 : Obj := oF (vT "code") [(vS "from_digits" 258), (vS "from_digits" 259), (vS "/claim/cut.py" 260), (vI (15) 0), (vI (1) 0), (vI (0) 0), (vI (0) 0), (vI (3) 0), (vR 64), (.bool true), (vI (181) 0), (vR 65), vN, vN, vN, (vR 66), (vI (261) 0), (vI (15) 0), (vS "/claim/cut.py" 262)]
def o68 : Obj := oU (vT "function") "from_digits" "from_digits" (topS 9) 3 [] vN vN (vS "curveseal.octets" 239) none (vR 67) vN 0 []
def o69 : Obj := oT []
def o70 : Obj := oF vN []
def o71 : Obj := oT [(vS "character" 267)]
def o72 : Obj := oT []
def o73 : Obj := oU vN "_digit" "_digit" (topS 10) 0 [] vN vN vN none vN vN 0 []
def o74 : Obj := oF (vT "code") [(vS "_digit" 264), (vS "_digit" 265), (vS "/claim/cut.py" 266), (vI (20) 0), (vI (1) 0), (vI (0) 0), (vI (0) 0), (vI (3) 0), (vR 69), (.bool true), (vI (181) 0), (vR 70), vN, (vR 71), (vR 72), (vR 73), (vI (268) 0), (vI (20) 0), (vS "/claim/cut.py" 269)]
def o75 : Obj := oU (vT "function") "_digit" "_digit" (topS 10) 3 [] vN vN (vS "curveseal.octets" 239) none (vR 74) vN 0 []
def o76 : Obj := oT []
def o77 : Obj := oF vN []
def o78 : Obj := oU vN "is_bytes" "is_bytes" (topS 11) 0 [] vN vN vN none vN vN 0 []
def o79 : Obj := oF (vT "code") [(vS "is_bytes" 271), (vS "is_bytes" 272), (vS "/claim/cut.py" 273), (vI (24) 0), (vI (1) 0), (vI (0) 0), (vI (0) 0), (vI (3) 0), (vR 76), (.bool true), (vI (181) 0), (vR 77), vN, vN, vN, (vR 78), (vI (274) 0), (vI (24) 0), (vS "/claim/cut.py" 275)]
def o80 : Obj := oU (vT "function") "is_bytes" "is_bytes" (topS 11) 3 [] vN vN (vS "curveseal.octets" 239) none (vR 79) vN 0 []
def o81 : Obj := oT []
def o82 : Obj := oF vN []
def o83 : Obj := oU vN "ascii_codes" "ascii_codes" (topS 12) 0 [] vN vN vN none vN vN 0 []
def o84 : Obj := oF (vT "code") [(vS "ascii_codes" 277), (vS "ascii_codes" 278), (vS "/claim/cut.py" 279), (vI (26) 0), (vI (1) 0), (vI (0) 0), (vI (0) 0), (vI (3) 0), (vR 81), (.bool true), (vI (181) 0), (vR 82), vN, vN, vN, (vR 83), (vI (280) 0), (vI (26) 0), (vS "/claim/cut.py" 281)]
def o85 : Obj := oU (vT "function") "ascii_codes" "ascii_codes" (topS 12) 3 [] vN vN (vS "curveseal.octets" 239) none (vR 84) vN 0 []
def o86 : Obj := oT []
def o87 : Obj := oF vN []
def o88 : Obj := oT [(vS "script" 288), (vS "k" 289)]
def o89 : Obj := oT []
def o90 : Obj := oU vN "_law_cell" "_law_cell" (topS 14) 0 [] vN vN vN none vN vN 0 []
def o91 : Obj := oF (vT "code") [(vS "_law_cell" 285), (vS "_law_cell" 286), (vS "/claim/cut.py" 287), (vI (33) 0), (vI (2) 0), (vI (0) 0), (vI (0) 0), (vI (3) 0), (vR 86), (.bool true), (vI (181) 0), (vR 87), vN, (vR 88), (vR 89), (vR 90), (vI (290) 0), (vI (33) 0), (vS "/claim/cut.py" 291)]
def o92 : Obj := oU (vT "function") "_law_cell" "_law_cell" (topS 14) 3 [] vN vN (vS "law_curveseal_k01_digits_and_codes" 283) none (vR 91) vN 0 []
def o93 : Obj := oT []
def o94 : Obj := oF vN []
def o95 : Obj := oT [(vS "actual" 296)]
def o96 : Obj := oT []
def o97 : Obj := oU vN "_law_is_integer" "_law_is_integer" (topS 15) 0 [] vN vN vN none vN vN 0 []
def o98 : Obj := oF (vT "code") [(vS "_law_is_integer" 293), (vS "_law_is_integer" 294), (vS "/claim/cut.py" 295), (vI (37) 0), (vI (1) 0), (vI (0) 0), (vI (0) 0), (vI (3) 0), (vR 93), (.bool true), (vI (181) 0), (vR 94), vN, (vR 95), (vR 96), (vR 97), (vI (297) 0), (vI (37) 0), (vS "/claim/cut.py" 298)]
def o99 : Obj := oU (vT "function") "_law_is_integer" "_law_is_integer" (topS 15) 3 [] vN vN (vS "law_curveseal_k01_digits_and_codes" 283) none (vR 98) vN 0 []
def o100 : Obj := oT []
def o101 : Obj := oF vN []
def o102 : Obj := oU vN "_law_bytes" "_law_bytes" (topS 16) 0 [] vN vN vN none vN vN 0 []
def o103 : Obj := oF (vT "code") [(vS "_law_bytes" 300), (vS "_law_bytes" 301), (vS "/claim/cut.py" 302), (vI (39) 0), (vI (3) 0), (vI (0) 0), (vI (0) 0), (vI (3) 0), (vR 100), (.bool true), (vI (181) 0), (vR 101), vN, vN, vN, (vR 102), (vI (303) 0), (vI (39) 0), (vS "/claim/cut.py" 304)]
def o104 : Obj := oU (vT "function") "_law_bytes" "_law_bytes" (topS 16) 3 [] vN vN (vS "law_curveseal_k01_digits_and_codes" 283) none (vR 103) vN 0 []
def o105 : Obj := oT []
def o106 : Obj := oF vN []
def o107 : Obj := oT [(vS "actual" 309), (vS "count" 310), (vS "byte" 311)]
def o108 : Obj := oT []
def o109 : Obj := oU vN "_law_is_bytes" "_law_is_bytes" (topS 17) 0 [] vN vN vN none vN vN 0 []
def o110 : Obj := oF (vT "code") [(vS "_law_is_bytes" 306), (vS "_law_is_bytes" 307), (vS "/claim/cut.py" 308), (vI (55) 0), (vI (2) 0), (vI (0) 0), (vI (0) 0), (vI (3) 0), (vR 105), (.bool true), (vI (181) 0), (vR 106), vN, (vR 107), (vR 108), (vR 109), (vI (312) 0), (vI (55) 0), (vS "/claim/cut.py" 313)]
def o111 : Obj := oU (vT "function") "_law_is_bytes" "_law_is_bytes" (topS 17) 3 [] vN vN (vS "law_curveseal_k01_digits_and_codes" 283) none (vR 110) vN 0 []
def o112 : Obj := oT []
def o113 : Obj := oF vN []
def o114 : Obj := oT []
def o115 : Obj := oT []
def o116 : Obj := oU vN "_law_digits" "_law_digits" (topS 18) 0 [] vN vN vN none vN vN 0 []
def o117 : Obj := oF (vT "code") [(vS "_law_digits" 315), (vS "_law_digits" 316), (vS "/claim/cut.py" 317), (vI (62) 0), (vI (0) 0), (vI (0) 0), (vI (0) 0), (vI (3) 0), (vR 112), (.bool true), (vI (181) 0), (vR 113), vN, (vR 114), (vR 115), (vR 116), (vI (318) 0), (vI (62) 0), (vS "/claim/cut.py" 319)]
def o118 : Obj := oU (vT "function") "_law_digits" "_law_digits" (topS 18) 3 [] vN vN (vS "law_curveseal_k01_digits_and_codes" 283) none (vR 117) vN 0 []
def o119 : Obj := oT []
def o120 : Obj := oF vN []
def o121 : Obj := oT []
def o122 : Obj := oT []
def o123 : Obj := oU vN "_law_percent" "_law_percent" (topS 19) 0 [] vN vN vN none vN vN 0 []
def o124 : Obj := oF (vT "code") [(vS "_law_percent" 321), (vS "_law_percent" 322), (vS "/claim/cut.py" 323), (vI (64) 0), (vI (0) 0), (vI (0) 0), (vI (0) 0), (vI (3) 0), (vR 119), (.bool true), (vI (181) 0), (vR 120), vN, (vR 121), (vR 122), (vR 123), (vI (324) 0), (vI (64) 0), (vS "/claim/cut.py" 325)]
def o125 : Obj := oU (vT "function") "_law_percent" "_law_percent" (topS 19) 3 [] vN vN (vS "law_curveseal_k01_digits_and_codes" 283) none (vR 124) vN 0 []
def o126 : Obj := oT []
def o127 : Obj := oF vN []
def o128 : Obj := oT [(vS "signs" 330)]
def o129 : Obj := oT []
def o130 : Obj := oU vN "_law_chars" "_law_chars" (topS 20) 0 [] vN vN vN none vN vN 0 []
def o131 : Obj := oF (vT "code") [(vS "_law_chars" 327), (vS "_law_chars" 328), (vS "/claim/cut.py" 329), (vI (66) 0), (vI (0) 0), (vI (0) 0), (vI (0) 0), (vI (3) 0), (vR 126), (.bool true), (vI (181) 0), (vR 127), vN, (vR 128), (vR 129), (vR 130), (vI (331) 0), (vI (66) 0), (vS "/claim/cut.py" 332)]
def o132 : Obj := oU (vT "function") "_law_chars" "_law_chars" (topS 20) 3 [] vN vN (vS "law_curveseal_k01_digits_and_codes" 283) none (vR 131) vN 0 []
def o133 : Obj := oT []
def o134 : Obj := oF vN []
def o135 : Obj := oT [(vS "text" 337), (vS "which" 338), (vS "e" 339)]
def o136 : Obj := oT []
def o137 : Obj := oU vN "_law_told" "_law_told" (topS 21) 0 [] vN vN vN none vN vN 0 []
def o138 : Obj := oF (vT "code") [(vS "_law_told" 334), (vS "_law_told" 335), (vS "/claim/cut.py" 336), (vI (69) 0), (vI (2) 0), (vI (0) 0), (vI (0) 0), (vI (3) 0), (vR 133), (.bool true), (vI (181) 0), (vR 134), vN, (vR 135), (vR 136), (vR 137), (vI (340) 0), (vI (69) 0), (vS "/claim/cut.py" 341)]
def o139 : Obj := oU (vT "function") "_law_told" "_law_told" (topS 21) 3 [] vN vN (vS "law_curveseal_k01_digits_and_codes" 283) none (vR 138) vN 0 []
def o140 : Obj := oT []
def o141 : Obj := oF vN []
def o142 : Obj := oT [(vS "text" 346), (vS "data" 347), (vS "k" 348)]
def o143 : Obj := oT []
def o144 : Obj := oU vN "_law_due" "_law_due" (topS 22) 0 [] vN vN vN none vN vN 0 []
def o145 : Obj := oF (vT "code") [(vS "_law_due" 343), (vS "_law_due" 344), (vS "/claim/cut.py" 345), (vI (78) 0), (vI (1) 0), (vI (0) 0), (vI (0) 0), (vI (3) 0), (vR 140), (.bool true), (vI (181) 0), (vR 141), vN, (vR 142), (vR 143), (vR 144), (vI (349) 0), (vI (78) 0), (vS "/claim/cut.py" 350)]
def o146 : Obj := oU (vT "function") "_law_due" "_law_due" (topS 22) 3 [] vN vN (vS "law_curveseal_k01_digits_and_codes" 283) none (vR 145) vN 0 []
def o147 : Obj := oT []
def o148 : Obj := oF vN []
def o149 : Obj := oT [(vS "cell" 355), (vS "data" 356), (vS "values" 357)]
def o150 : Obj := oT []
def o151 : Obj := oU vN "_law_right_kinds" "_law_right_kinds" (topS 23) 0 [] vN vN vN none vN vN 0 []
def o152 : Obj := oF (vT "code") [(vS "_law_right_kinds" 352), (vS "_law_right_kinds" 353), (vS "/claim/cut.py" 354), (vI (87) 0), (vI (2) 0), (vI (0) 0), (vI (0) 0), (vI (3) 0), (vR 147), (.bool true), (vI (181) 0), (vR 148), vN, (vR 149), (vR 150), (vR 151), (vI (358) 0), (vI (87) 0), (vS "/claim/cut.py" 359)]
def o153 : Obj := oU (vT "function") "_law_right_kinds" "_law_right_kinds" (topS 23) 3 [] vN vN (vS "law_curveseal_k01_digits_and_codes" 283) none (vR 152) vN 0 []
def o154 : Obj := oT []
def o155 : Obj := oF vN []
def o156 : Obj := oU vN "law" "law" (topS 24) 0 [] vN vN vN none vN vN 0 []
def o157 : Obj := oF (vT "code") [(vS "law" 361), (vS "law" 362), (vS "/claim/cut.py" 363), (vI (92) 0), (vI (1) 0), (vI (0) 0), (vI (0) 0), (vI (3) 0), (vR 154), (.bool true), (vI (181) 0), (vR 155), vN, vN, vN, (vR 156), (vI (364) 0), (vI (92) 0), (vS "/claim/cut.py" 365)]
def o158 : Obj := oU (vT "function") "law" "law" (topS 24) 3 [] vN vN (vS "law_curveseal_k01_digits_and_codes" 283) none (vR 157) vN 0 []
def b0_0 (w : World) : List Obj := [o0 w, o1 w, o2 w, o3 w, o4, o5, o6 w, o7, o8, o9, o10]
def S_x (w : World) : SharedT := ⟨trF 16 (b0_0 w), 11, {}, #[], {}, 181, {}⟩
def b0_1 (w : World) : List Obj := [o0 w, o1 w, o2 w, o3 w, o4, o5, o6 w, o7, o8, o9, o10, o11, o12, o13, o14]
def S_s (w : World) : SharedT := ⟨trF 16 (b0_1 w), 15, {}, #[], {}, 187, {}⟩
def b0_2 (w : World) : List Obj := [o0 w, o1 w, o2 w, o3_1 w, o4, o5, o6 w, o7, o8, o9, o10, o11, o12_1, o13, o14, o15, o16, o17 w, o18, o19, o20, o21, o22, o23 w, o24, o25, o26, o27, o28, o29, o30 w, o31, o32, o33, o34, o35, o36 w, o37, o38, o39]
def b1_2 (w : World) : List Obj := [o40, o41, o42 w, o43, o44, o45, o46, o47, o48 w, o49, o50, o51, o52, o53, o54, o55, o56, o57, o58, o59, o60, o61, o62, o63, o64, o65, o66, o67, o68, o69, o70, o71, o72, o73, o74, o75, o76, o77, o78, o79]
def b2_2 (w : World) : List Obj := [o80, o81, o82, o83, o84, o85, o86, o87, o88, o89, o90, o91, o92, o93, o94, o95, o96, o97, o98, o99, o100, o101, o102, o103, o104, o105, o106, o107, o108, o109, o110, o111, o112, o113, o114, o115, o116, o117, o118, o119]
def b3_2 (w : World) : List Obj := [o120, o121, o122, o123, o124, o125, o126, o127, o128, o129, o130, o131, o132, o133, o134, o135, o136, o137, o138, o139, o140, o141, o142, o143, o144, o145, o146, o147, o148, o149, o150, o151, o152, o153, o154, o155, o156, o157, o158]
def S_p0 (w : World) : SharedT := ⟨trF 16 (b0_2 w ++ (b1_2 w ++ (b2_2 w ++ (b3_2 w)))), 159, {}, #[], {}, 367, {}⟩
def S_f (w : World) : SharedT := ⟨trF 16 (b0_2 w ++ (b1_2 w ++ (b2_2 w ++ (b3_2 w)))), 159, {}, #[], {}, 367, {}⟩
abbrev annP : Option Value := (some (vR 6))
def envP : Env := envT Rw.prog (vR 13) 14
def codP : Code := .body (behindTheImports Rw.prog) envP
abbrev stkP : List Frame := frT1 (.builtin "claim.caller" {}) ⟨0, 0, 0, 0⟩
def cutP (a b : Nat) : List Stmt := ((behindTheImports Rw.prog).drop a).take (b - a)
def L_x (w : World) : List Obj := [o0 w, o1 w, o2 w, o3 w, o4, o5, o6 w, o7, o8, o9, o10]
theorem op_ (w : World) : openQ w 20000000 Rw.prog = some (L_x w, (S_x w).life, (S_x w).gens, (S_x w).drawn, (S_x w).toks, (S_x w).os) := by
  kernel_rfl
theorem xl_ (w : World) : (S_x w).abs.heap.objs.toList = L_x w := by
  kernel_rfl
theorem xg_ (w : World) : ((S_x w).abs.heap.isNs mainGlobals && (S_x w).abs.gens.size == 0) = true := by
  kernel_rfl
theorem xn_ (w : World) : (S_x w).abs.heap.objs.size = 11 := by
  kernel_rfl
theorem xa_ (w : World) : (S_x w).abs.heap.nsMap mainGlobals "__annotations__" = annP := by
  kernel_rfl
theorem st_ (w : World) : startB (stQ Rw.prog w) 11 annP Rw.prog (S_x w) = some (S_s w, (vR 13), 14, .builtin "claim.caller" {}, ⟨0, 0, 0, 0⟩, codP, ⟨0, 0, 0, 0⟩) := by
  kernel_rfl
theorem pc_p0_f (w : World) : sgRun (stQ Rw.prog (w.withFollow "special-get-raises" false)) 11 annP stkP.length 40000 (S_s (w.withFollow "special-get-raises" false)) ⟨(execs (cutP 0 25) envP).wrap (fun f => .pure (.done (id f))) deadEnd id id, codP, ⟨0, 0, 0, 0⟩, stkP⟩ = some (.next, S_p0 (w.withFollow "special-get-raises" false), codP, ⟨92, 0, 114, 55⟩) := by
  kernel_rfl
theorem pc_p0_t (w : World) : sgRun (stQ Rw.prog (w.withFollow "special-get-raises" true)) 11 annP stkP.length 40000 (S_s (w.withFollow "special-get-raises" true)) ⟨(execs (cutP 0 25) envP).wrap (fun f => .pure (.done (id f))) deadEnd id id, codP, ⟨0, 0, 0, 0⟩, stkP⟩ = some (.next, S_p0 (w.withFollow "special-get-raises" true), codP, ⟨92, 0, 114, 55⟩) := by
  kernel_rfl
theorem pc_p0 (w : World) : sgRun (stQ Rw.prog w) 11 annP stkP.length 40000 (S_s w) ⟨(execs (cutP 0 25) envP).wrap (fun f => .pure (.done (id f))) deadEnd id id, codP, ⟨0, 0, 0, 0⟩, stkP⟩ = some (.next, S_p0 w, codP, ⟨92, 0, 114, 55⟩) := PySem.W.byRow2 (P := fun w => sgRun (stQ Rw.prog w) 11 annP stkP.length 40000 (S_s w) ⟨(execs (cutP 0 25) envP).wrap (fun f => .pure (.done (id f))) deadEnd id id, codP, ⟨0, 0, 0, 0⟩, stkP⟩ = some (.next, S_p0 w, codP, ⟨92, 0, 114, 55⟩)) "special-get-raises" pc_p0_f pc_p0_t w
theorem fin_ (w : World) : goF (stQ Rw.prog w) 11 annP 40000 (S_p0 w) ⟨(execs [] envP).wrap doneF (leaveH envP) id id, codP, ⟨92, 0, 114, 55⟩, stkP⟩ = some (S_f w) := by
  kernel_rfl
theorem body_ : behindTheImports Rw.prog = (cutP 0 25 ++ []) := by
  kernel_rfl
theorem runp_ (w : World) : RunP Rw.prog w 11 annP envP stkP (cutP 0 25 ++ []) (S_s w) codP ⟨0, 0, 0, 0⟩ (40000 + (40000)) (S_f w) :=
  runP_app rfl (pc_p0 w) (runP_nil (fin_ w))
theorem runw_ (w : World) : RunW Rw.prog w 20000000 (fuelT + (fuelT + (1 + (fuelT + (40000 + (40000)))))) (S_x w) (S_f w) := runW_of (op_ w) (xl_ w) (xg_ w) (xn_ w) (xa_ w) (st_ w) (body_ ▸ runp_ w)
theorem lk1_ (w : World) : HandSHeadRun.looksF Rw.prog (S_x w).abs.heap (S_f w).abs = true := by
  kernel_rfl
theorem lk2_ (w : World) : HandSHeadRun.seenQ (PySem.W.view Rw.prog [24]) ((["is_whole", "to_digits", "from_digits", "_digit", "is_bytes", "ascii_codes", "_law_cell", "_law_is_integer", "_law_bytes", "_law_is_bytes", "_law_digits", "_law_percent", "_law_chars", "_law_told", "_law_due", "_law_right_kinds", "CurveError", "OutOfRange", "Malformed", "DIGITS", "PERCENT"] : List Str)) (importedModules Rw.prog.main.body) (fun s => xlAt (PySem.W.view Rw.prog [24]) [] s && recOk Rw.toRowW.records s) (S_f w).abs = PySem.W.openGood (PySem.W.view Rw.prog [24]) ((["is_whole", "to_digits", "from_digits", "_digit", "is_bytes", "ascii_codes", "_law_cell", "_law_is_integer", "_law_bytes", "_law_is_bytes", "_law_digits", "_law_percent", "_law_chars", "_law_told", "_law_due", "_law_right_kinds", "CurveError", "OutOfRange", "Malformed", "DIGITS", "PERCENT"] : List Str)) := by
  kernel_rfl
theorem lk3_ (w : World) : ob (S_f w) = hk.val w := by
  kernel_rfl
abbrev fuelQ : Nat := fuelT + (fuelT + (1 + (fuelT + (40000 + (40000)))))
end
abbrev FnP (K : PySem.W.Frag) (x q : Str) (st : Stmt) (f : Addr) (fd : FuncData) : Prop := FunD K x q (defArgs st) (defBody st) (defScope st) [] [] f fd
abbrev FnPk (kws : List (Str × V)) (K : PySem.W.Frag) (x q : Str) (st : Stmt) (f : Addr) (fd : FuncData) : Prop := FunD K x q (defArgs st) (defBody st) (defScope st) [] kws f fd
structure Facts (P : Program) (w : World) (K : PySem.W.Frag) (mg : Str → Option Value) : Prop where
  d_is_whole : ∃ fd, FnP K "is_whole" "is_whole" s_is_whole (He.ga K "is_whole") fd
  g_is_whole : mg "is_whole" = some (.ref (He.ga K "is_whole"))
  d_to_digits : ∃ fd, FnP K "to_digits" "to_digits" s_to_digits (He.ga K "to_digits") fd
  g_to_digits : mg "to_digits" = some (.ref (He.ga K "to_digits"))
  d_from_digits : ∃ fd, FnP K "from_digits" "from_digits" s_from_digits (He.ga K "from_digits") fd
  g_from_digits : mg "from_digits" = some (.ref (He.ga K "from_digits"))
  d_u_digit : ∃ fd, FnP K "_digit" "_digit" s_u_digit (He.ga K "_digit") fd
  g_u_digit : mg "_digit" = some (.ref (He.ga K "_digit"))
  d_is_bytes : ∃ fd, FnP K "is_bytes" "is_bytes" s_is_bytes (He.ga K "is_bytes") fd
  g_is_bytes : mg "is_bytes" = some (.ref (He.ga K "is_bytes"))
  d_ascii_codes : ∃ fd, FnP K "ascii_codes" "ascii_codes" s_ascii_codes (He.ga K "ascii_codes") fd
  g_ascii_codes : mg "ascii_codes" = some (.ref (He.ga K "ascii_codes"))
  d_u_law_cell : ∃ fd, FnP K "_law_cell" "_law_cell" s_u_law_cell (He.ga K "_law_cell") fd
  g_u_law_cell : mg "_law_cell" = some (.ref (He.ga K "_law_cell"))
  d_u_law_bytes : ∃ fd, FnP K "_law_bytes" "_law_bytes" s_u_law_bytes (He.ga K "_law_bytes") fd
  g_u_law_bytes : mg "_law_bytes" = some (.ref (He.ga K "_law_bytes"))
  d_u_law_digits : ∃ fd, FnP K "_law_digits" "_law_digits" s_u_law_digits (He.ga K "_law_digits") fd
  g_u_law_digits : mg "_law_digits" = some (.ref (He.ga K "_law_digits"))
  d_u_law_percent : ∃ fd, FnP K "_law_percent" "_law_percent" s_u_law_percent (He.ga K "_law_percent") fd
  g_u_law_percent : mg "_law_percent" = some (.ref (He.ga K "_law_percent"))
  d_u_law_chars : ∃ fd, FnP K "_law_chars" "_law_chars" s_u_law_chars (He.ga K "_law_chars") fd
  g_u_law_chars : mg "_law_chars" = some (.ref (He.ga K "_law_chars"))
  d_u_law_told : ∃ fd, FnP K "_law_told" "_law_told" s_u_law_told (He.ga K "_law_told") fd
  g_u_law_told : mg "_law_told" = some (.ref (He.ga K "_law_told"))
  d_u_law_due : ∃ fd, FnP K "_law_due" "_law_due" s_u_law_due (He.ga K "_law_due") fd
  g_u_law_due : mg "_law_due" = some (.ref (He.ga K "_law_due"))
  d_u_law_right_kinds : ∃ fd, FnP K "_law_right_kinds" "_law_right_kinds" s_u_law_right_kinds (He.ga K "_law_right_kinds") fd
  g_u_law_right_kinds : mg "_law_right_kinds" = some (.ref (He.ga K "_law_right_kinds"))
  d_law : ∃ fd, FnP K "law" "law" s_law (He.ga K "law") fd
  g_law : mg "law" = some (.ref (He.ga K "law"))
  g_CurveError : mg "CurveError" = some (.ref (He.ga K "CurveError"))
  g_OutOfRange : mg "OutOfRange" = some (.ref (He.ga K "OutOfRange"))
  g_Malformed : mg "Malformed" = some (.ref (He.ga K "Malformed"))
  x_Malformed : PySem.W.excIn K (He.ga K "Malformed") He.veBase "ValueError.__new__" = true
  k_Malformed : PySem.W.keepIn K (.ref (He.ga K "Malformed")) = true
  b_Malformed : PySem.W.subIn K (.ref (He.ga K "Malformed")) (.type "BaseException") = some true
  t_Malformed : PySem.W.typeIn K (.ref (He.ga K "Malformed")) = some (.type "type")
  n_abs : mg "abs" = none
  n_all : mg "all" = none
  n_bool : mg "bool" = none
  n_int : mg "int" = none
  n_isinstance : mg "isinstance" = none
  n_len : mg "len" = none
  n_list : mg "list" = none
  n_ord : mg "ord" = none
  n_range : mg "range" = none
  n_str : mg "str" = none
  c_PERCENT : ∃ t, mg "PERCENT" = some (.int 37 t)
  c_DIGITS : ConF K mg "DIGITS" (toD k_DIGITS)
  cls : Cls K errs subE
noncomputable def m_is_whole (value_ : D) : Res Bool :=
  (Res.need ((toD value_).plain = true) (Res.ok (isI "int" (toD value_)))).bind fun b2 => cond b2 ((Res.need ((toD value_).plain = true) (Res.ok (isI "bool" (toD value_)))).bind fun (t1 : Bool) => Res.ok (!t1)) (Res.ok false)
theorem ok_is_whole {P : Program} {w : World} {K : PySem.W.Frag} {mg : Str → Option Value} {base : Heap} (T : Facts P w K mg) {fd : FuncData} (F : FnP K "is_whole" "is_whole" s_is_whole (He.ga K "is_whole") fd) :
    FnOk P w K mg base (L2.CX P w) 1 (He.ga K "is_whole") fd ["value"] (spM K (fun (p : D × Unit) => m_is_whole p.1)) := by
  refine fn_ok F sc_is_whole (fun y => rfl) (fun cdv A outer s H E hr => ?_)
  refine ⟨_, (pss_one (ps_ret (pe_and (pe_callB call_isi (by rfl) T.n_isinstance (by decide +kernel) (pa_cons (pv 0) (pa_cons (pe_bltn (v := .ty "int") (by rfl) T.n_int (by decide +kernel) rfl) pa_nil))) (pe_one (pe_not (pe_callB call_isi (by rfl) T.n_isinstance (by decide +kernel) (pa_cons (pv 0) (pa_cons (pe_bltn (v := .ty "bool") (by rfl) T.n_bool (by decide +kernel) rfl) pa_nil)))))))), ?_⟩
  rintro ⟨value_, ⟨⟩⟩ F0 H0 Q KP L
  show Blk K F0 H0 KP _ [iM value_] (m_is_whole value_)
  unfold m_is_whole
  have hr_ := ((ev_andV (ev_isi isi_int (ev_var (i := 0) (x := value_) rfl)) (ev_notV (ev_isi isi_bool (ev_var (i := 0) (x := value_) rfl)))) : EvX K (W0 E) [iM value_] _ _)
  exact blk_ret L trivial (by exact hr_)
noncomputable def m_to_digits (data_ : (List Int)) : Res Str :=
  (((Res.ok data_)).bind fun (xs4 : List Int) => Res.need (xs4.length ≤ 16777216) (compL (fun (x3 : Int) => Res.ok true) (fun (x3 : Int) => Res.need (0 ≤ x3 ∧ x3 < 256) (Res.ok (hex2 (Int.toNat x3)))) xs4)).bind fun (t5 : (List Str)) => Res.need ((t5.map (·.length)).sum + t5.length * ("" : Str).length ≤ 16777216) (Res.ok (Txt.join ("" : Str) t5))
theorem ok_to_digits {P : Program} {w : World} {K : PySem.W.Frag} {mg : Str → Option Value} {base : Heap} (T : Facts P w K mg) {fd : FuncData} (F : FnP K "to_digits" "to_digits" s_to_digits (He.ga K "to_digits") fd) :
    FnOk P w K mg base (L2.CX P w) 1 (He.ga K "to_digits") fd ["data"] (spM K (fun (p : (List Int) × Unit) => m_to_digits p.1)) := by
  refine fn_ok F sc_to_digits (fun y => rfl) (fun cdv A outer s H E hr => ?_)
  refine ⟨_, (pss_one (ps_ret (pe_joinK rfl pe_str (pe_lc (own := [("byte", 1)]) rfl sc_to_digits.nd (pi_list (pv 0)) (blkOk_by (own := [("byte", 1)]) (N := ["data", "byte"]) (sc := defScope s_to_digits) (by decide +kernel)) (fun _ _ _ _ _ => (pg_name (i := 1) sc_to_digits.nd rfl (Or.inl rfl))) (fun _ _ _ _ _ => pts_nil) (fun _ _ _ _ _ => (pe_joined1 (pe_fmtX (pv 1) (pe_joined1 pe_str)))))))), ?_⟩
  rintro ⟨data_, ⟨⟩⟩ F0 H0 Q KP L
  show Blk K F0 H0 KP _ [iM data_, none] (m_to_digits data_)
  unfold m_to_digits
  have hr_ := ((ev_join (ev_str (x := "")) (ev_ofN (ev_comp (tst := fun (x3 : Int) => Res.ok true) (el := fun (x3 : Int) => Res.need (0 ≤ x3 ∧ x3 < 256) (Res.ok (hex2 (Int.toNat x3)))) (ws := [1]) (ei_list (ev_var (i := 0) (x := data_) rfl)) (fun _ => gx_name) (fun x3 => et_yes) (fun x3 => ((ev_fmtX (ev_var (i := 1) (x := x3) rfl)) : EvX K WT [iM data_, iM x3] _ _))))) : EvX K (W0 E) [iM data_, none] _ _)
  exact blk_ret L trivial (by exact hr_)
noncomputable def m_u_digit (character_ : Str) : Res Int :=
  (Res.need ((character_).length = 1) (Res.ok (!decide (sg character_ ∈ (Str.cps k_DIGITS).toList)))).bind fun b => cond b   (Res.exc "Malformed")   (match tfind k_DIGITS character_ with | some j6 => Res.ok ((j6 : Nat) : Int) | none => Res.stuck)
theorem ok_u_digit {P : Program} {w : World} {K : PySem.W.Frag} {mg : Str → Option Value} {base : Heap} (T : Facts P w K mg) {fd : FuncData} (F : FnP K "_digit" "_digit" s_u_digit (He.ga K "_digit") fd) :
    FnOk P w K mg base (L2.CX P w) 1 (He.ga K "_digit") fd ["character"] (spM K (fun (p : Str × Unit) => m_u_digit p.1)) := by
  refine fn_ok F sc_u_digit (fun y => rfl) (fun cdv A outer s H E hr => ?_)
  refine ⟨_, (pss_cons (ps_if (pt_cmpR op_notIn_sign (pv 0) (pe_glob (v := T.c_DIGITS.v) rfl T.c_DIGITS.m T.c_DIGITS.r) rfl) (pss_one (ps_raise rfl (takes_of rfl rfl rfl rfl) (pmk_own PySem.F.excBase_ValueError T.x_Malformed T.g_Malformed T.k_Malformed (raises_own T.b_Malformed T.t_Malformed) rfl))) pss_nil) (pss_one (ps_ret (pe_m1 PySem.F.slot_str_index PySem.F.type_str_index mt_sindex (pe_glob (v := T.c_DIGITS.v) rfl T.c_DIGITS.m T.c_DIGITS.r) (pv 0))))), ?_⟩
  rintro ⟨character_, ⟨⟩⟩ F0 H0 Q KP L
  show Blk K F0 H0 KP _ [iM character_] (m_u_digit character_)
  unfold m_u_digit
  have ht_ := ((et_test (ev_op opx_ninSg mild_need (ev_var (i := 0) (x := character_) rfl) (ev_con T.c_DIGITS))) : EvT K (W0 E) [iM character_] _ _)
  refine blk_seq (blk_if2 L trivial (by exact ht_) ?_ ?_)
  · exact blk_raise L trivial
  · refine blk_nil ?_
    try refine Blk.nx ?_
    have hr_ := ((ev_tindex (ev_con T.c_DIGITS) (ev_var (i := 0) (x := character_) rfl)) : EvX K (W0 E) [iM character_] _ _)
    exact blk_ret L trivial (by exact hr_)
noncomputable def m_from_digits (text_ : Str) : Res (List Int) :=
  (((Res.need ((text_).length ≤ 16777216) (Res.ok ((text_).length : Int))).bind fun (t7 : Int) => Res.ok (t7 % (2 : Int))).bind fun (t8 : Int) => Res.ok (decide (t8 = (1 : Int)))).bind fun b => cond b   (Res.exc "Malformed")   ((((Res.ok (chars text_))).bind fun (xs10 : List Str) => Res.need (xs10.length ≤ 16777216) (compL (fun (x9 : Str) => Res.ok true) (fun (x9 : Str) => m_u_digit x9) xs10)).bind fun (halves_ : (List Int)) =>   (Res.need (okRange (0 : Int) ∧ okRange ((halves_).length : Int) ∧ 0 < (2 : Int) ∧ (2 : Int) < 1073741824) (Res.ok (pyStep (0 : Int) ((halves_).length : Int) (2 : Int)))).bind fun (xs15 : List Int) => Res.need (xs15.length ≤ 16777216) (compL (fun (x11 : Int) => Res.ok true) (fun (x11 : Int) => ((idx halves_ x11).bind fun (t12 : Int) => Res.ok ((16 : Int) * t12)).bind fun (t13 : Int) => (idx halves_ (x11 + (1 : Int))).bind fun (t14 : Int) => Res.ok (t13 + t14)) xs15))
theorem ok_from_digits {P : Program} {w : World} {K : PySem.W.Frag} {mg : Str → Option Value} {base : Heap} (T : Facts P w K mg) {fd : FuncData} (F : FnP K "from_digits" "from_digits" s_from_digits (He.ga K "from_digits") fd) :
    FnOk P w K mg base (L2.CX P w) 2 (He.ga K "from_digits") fd ["text"] (spM K (fun (p : Str × Unit) => m_from_digits p.1)) := by
  obtain ⟨fd_u_digit, F_u_digit⟩ := T.d_u_digit
  have G_u_digit := ok_u_digit (P := P) (w := w) (base := base) T F_u_digit
  have b_u_digit : Binds K fd_u_digit ["character"] [] := F_u_digit.bindsN fun _ _ _ _ _ _ us hl => match us, hl with | [_], _ => rfl
  refine fn_ok F sc_from_digits (fun y => rfl) (fun cdv A outer s H E hr => ?_)
  refine ⟨_, (pss_cons (ps_if (pt_cmpR op_eq (pe_op op_mod (pe_callB cr_lenT (by rfl) T.n_len (by decide +kernel) (pa_cons (pv 0) pa_nil)) pe_int) pe_int (nomark _)) (pss_one (ps_raise rfl (takes_of rfl rfl rfl rfl) (pmk_own PySem.F.excBase_ValueError T.x_Malformed T.g_Malformed T.k_Malformed (raises_own T.b_Malformed T.t_Malformed) rfl))) pss_nil) (pss_cons (ps_set (i := 1) sc_from_digits.nd rfl (Or.inr rfl) (pe_lcE (own := [("character", 2)]) rfl rfl (takes_of rfl rfl rfl rfl) rfl sc_from_digits.nd (pi_str (pv 0)) (blkOk_by (own := [("character", 2)]) (N := ["text", "halves", "character", "at"]) (sc := defScope s_from_digits) (by decide +kernel)) (fun _ _ _ _ _ => (pg_name (i := 2) sc_from_digits.nd rfl (Or.inl rfl))) (fun _ _ _ _ _ => pts_nil) (fun _ _ _ _ _ px_ => (pe_callS G_u_digit (hr.mono (by decide)) rfl T.g_u_digit F_u_digit.kp b_u_digit px_ (pa_cons (pv 2) pa_nil))))) (pss_one (ps_ret (pe_lc (own := [("at", 3)]) rfl sc_from_digits.nd (pi_range3 rfl T.n_range (pa_cons pe_int (pa_cons (pe_callB (cr_len rfl) (by rfl) T.n_len (by decide +kernel) (pa_cons (pv 1) pa_nil)) (pa_cons pe_int pa_nil)))) (blkOk_by (own := [("at", 3)]) (N := ["text", "halves", "character", "at"]) (sc := defScope s_from_digits) (by decide +kernel)) (fun _ _ _ _ _ => (pg_name (i := 3) sc_from_digits.nd rfl (Or.inl rfl))) (fun _ _ _ _ _ => pts_nil) (fun _ _ _ _ _ => (pe_op op_add (pe_op op_mul pe_int (pe_ix (cr_ixL rfl) (pv 1) (pv 3) (fun _ _ => rfl))) (pe_ix (cr_ixL rfl) (pv 1) (pe_op op_add (pv 3) pe_int) (fun _ _ => rfl))))))))), ?_⟩
  rintro ⟨text_, ⟨⟩⟩ F0 H0 Q KP L
  show Blk K F0 H0 KP _ [iM text_, none, none, none] (m_from_digits text_)
  unfold m_from_digits
  have ht_ := ((et_test (ev_op opx_eqI mild_ok (ev_opI (C := (fun _ j => 0 < j)) (g := fun i j => i % j) (fun x y _ h => by cases h; (show (0 : Int) < _; decide)) (ev_cb cx_lenS (fun _ _ h => need_mild h) (ea_cons (ev_var (i := 0) (x := text_) rfl) ea_nil)) (ev_int (i := 2))) (ev_int (i := 1)))) : EvT K (W0 E) [iM text_, none, none, none] _ _)
  refine blk_seq (blk_if2 L trivial (by exact ht_) ?_ ?_)
  · exact blk_raise L trivial
  · refine blk_nil ?_
    try refine Blk.nx ?_
    have hs_ := ((ev_ofN (ev_compE (tst := fun (x9 : Str) => Res.ok true) (el := fun (x9 : Str) => m_u_digit x9) (ws := [2]) (ei_str (ev_var (i := 0) (x := text_) rfl)) (fun _ => gx_name) (fun x9 => et_yes) (fun x9 => ((ev_call (f := (fun (p : Str × Unit) => m_u_digit p.1)) (ea_cons (ev_var (i := 2) (x := x9) rfl) ea_nil)) : EvX K (W0 E) [iM text_, none, iM x9, none] _ _)))) : EvX K (W0 E) [iM text_, none, none, none] _ _)
    refine blk_seq (blk_set (i := 1) L trivial (by exact hs_) fun halves_ => ?_)
    show Blk _ _ _ _ _ [iM text_, iM halves_, none, none] _
    try refine Blk.nx ?_
    have hr_ := ((ev_ofN (ev_comp (tst := fun (x11 : Int) => Res.ok true) (el := fun (x11 : Int) => ((idx halves_ x11).bind fun (t12 : Int) => Res.ok ((16 : Int) * t12)).bind fun (t13 : Int) => (idx halves_ (x11 + (1 : Int))).bind fun (t14 : Int) => Res.ok (t13 + t14)) (ws := [3]) (ei_step (ev_int (i := 0)) (ev_cb cx_len (fun _ _ h => nomatch h) (ea_cons (ev_var (i := 1) (x := halves_) rfl) ea_nil)) (ev_int (i := 2))) (fun _ => gx_name) (fun x11 => et_yes) (fun x11 => ((ev_op (opx_I0 (g := fun i j => i + j)) mild_ok (ev_opI (C := CMul) (g := fun i j => i * j) (fun x y h _ => by cases h; exact .inl (by decide)) (ev_int (i := 16)) (ev_op opx_ixL (fun x y => idx_mild x y) (ev_var (i := 1) (x := halves_) rfl) (ev_var (i := 3) (x := x11) rfl))) (ev_op opx_ixL (fun x y => idx_mild x y) (ev_var (i := 1) (x := halves_) rfl) (ev_op (opx_I0 (g := fun i j => i + j)) mild_ok (ev_var (i := 3) (x := x11) rfl) (ev_int (i := 1))))) : EvX K WT [iM text_, iM halves_, none, iM x11] _ _)))) : EvX K (W0 E) [iM text_, iM halves_, none, none] _ _)
    exact blk_ret L trivial (by exact hr_)
noncomputable def m_is_bytes (value_ : D) : Res Bool :=
  (Res.need ((toD value_).plain = true) (Res.ok (isI "list" (toD value_)))).bind fun b23 => cond b23 ((((((Res.ok value_)).bind D.asList).bind fun (xs19 : List D) => Res.need (xs19.length ≤ 16777216) (compL (fun (x16 : D) => Res.ok true) (fun (x16 : D) => ((m_is_whole x16).noexc).bind fun b18 => cond b18 ((((Res.ok x16)).bind D.asInt).bind fun (t17 : Int) => cond (decide ((0 : Int) ≤ t17)) (Res.ok (decide (t17 ≤ (255 : Int)))) (Res.ok false)) (Res.ok false)) xs19)).bind fun a20 => Res.ok (a20, ())).bind fun p22 => Res.ok ((p22.1).all id)) (Res.ok false)
theorem ok_is_bytes {P : Program} {w : World} {K : PySem.W.Frag} {mg : Str → Option Value} {base : Heap} (T : Facts P w K mg) {fd : FuncData} (F : FnP K "is_bytes" "is_bytes" s_is_bytes (He.ga K "is_bytes") fd) :
    FnOk P w K mg base (L2.CX P w) 2 (He.ga K "is_bytes") fd ["value"] (spM K (fun (p : D × Unit) => m_is_bytes p.1)) := by
  obtain ⟨fd_is_whole, F_is_whole⟩ := T.d_is_whole
  have G_is_whole := ok_is_whole (P := P) (w := w) (base := base) T F_is_whole
  have b_is_whole : Binds K fd_is_whole ["value"] [] := F_is_whole.bindsN fun _ _ _ _ _ _ us hl => match us, hl with | [_], _ => rfl
  refine fn_ok F sc_is_bytes (fun y => rfl) (fun cdv A outer s H E hr => ?_)
  refine ⟨_, (pss_one (ps_ret (pe_and (pe_callB call_isi (by rfl) T.n_isinstance (by decide +kernel) (pa_cons (pv 0) (pa_cons (pe_bltn (v := .ty "list") (by rfl) T.n_list (by decide +kernel) rfl) pa_nil))) (pe_one (pe_callB (cr_all rfl) (by rfl) T.n_all (by decide +kernel) (pa_cons (pe_lc (own := [("item", 1)]) rfl sc_is_bytes.nd (pi_list (pv 0)) (blkOk_by (own := [("item", 1)]) (N := ["value", "item"]) (sc := defScope s_is_bytes) (by decide +kernel)) (fun _ _ _ _ _ => (pg_name (i := 1) sc_is_bytes.nd rfl (Or.inl rfl))) (fun _ _ _ _ _ => pts_nil) (fun _ _ _ _ _ => (pe_and (pe_call G_is_whole (hr.mono (by decide)) rfl T.g_is_whole F_is_whole.kp b_is_whole .nil passL (pa_cons (pv 1) pa_nil)) (pe_one (pe_chain op_le op_le pe_int (pv 1) pe_int))))) pa_nil)))))), ?_⟩
  rintro ⟨value_, ⟨⟩⟩ F0 H0 Q KP L
  show Blk K F0 H0 KP _ [iM value_, none] (m_is_bytes value_)
  unfold m_is_bytes
  have hr_ := ((ev_andV (ev_isi isi_list (ev_var (i := 0) (x := value_) rfl)) (ev_cb cx_all (fun _ _ h => nomatch h) (ea_cons (ev_ofN (ev_comp (tst := fun (x16 : D) => Res.ok true) (el := fun (x16 : D) => ((m_is_whole x16).noexc).bind fun b18 => cond b18 ((((Res.ok x16)).bind D.asInt).bind fun (t17 : Int) => cond (decide ((0 : Int) ≤ t17)) (Res.ok (decide (t17 ≤ (255 : Int)))) (Res.ok false)) (Res.ok false)) (ws := [1]) (ei_list (ev_cast (f := D.asList) asList_ok asList_x (ev_var (i := 0) (x := value_) rfl))) (fun _ => gx_name) (fun x16 => et_yes) (fun x16 => ((ev_andV (ev_call0 (f := (fun (p : D × Unit) => m_is_whole p.1)) (ea_cons (ev_var (i := 1) (x := x16) rfl) ea_nil)) (ev_chain (opx_B0 (g := fun i j => decide (i ≤ j))) mild_ok (opx_B0 (g := fun i j => decide (i ≤ j))) mild_ok (ev_int (i := 0)) (ev_cast (f := D.asInt) asInt_ok asInt_x (ev_var (i := 1) (x := x16) rfl)) (ev_int (i := 255)))) : EvX K WT [iM value_, iM x16] _ _)))) ea_nil))) : EvX K (W0 E) [iM value_, none] _ _)
  exact blk_ret L trivial (by exact hr_)
noncomputable def m_ascii_codes_l1 (k1 : Unit → Res (List Int)) : List Int → Unit → Res (List Int)
  | [], s => k1 s
  | x26 :: r1, _ =>   (fun (code_ : Int) => (cond (decide (code_ < (32 : Int))) (Res.ok true) (cond (decide ((126 : Int) < code_)) (Res.ok true) ((Res.ok (decide (code_ = (37 : Int))))))).bind fun b => cond b   (Res.exc "Malformed")   (m_ascii_codes_l1 k1 r1 ())) x26
noncomputable def m_ascii_codes_k2 (codes_ : (List Int)) : Unit → Res (List Int) := fun _ =>   (Res.ok codes_)
noncomputable def m_ascii_codes (text_ : Str) : Res (List Int) :=
  (((Res.ok (chars text_))).bind fun (xs25 : List Str) => Res.need (xs25.length ≤ 16777216) (compL (fun (x24 : Str) => Res.ok true) (fun (x24 : Str) => Res.need ((x24).length = 1) (Res.ok (((x24).cps.getD 0 0 : Nat) : Int))) xs25)).bind fun (codes_ : (List Int)) =>   ((Res.ok codes_)).bind fun (xs27 : List Int) => m_ascii_codes_l1 (m_ascii_codes_k2 codes_) xs27 ()
theorem ok_ascii_codes {P : Program} {w : World} {K : PySem.W.Frag} {mg : Str → Option Value} {base : Heap} (T : Facts P w K mg) {fd : FuncData} (F : FnP K "ascii_codes" "ascii_codes" s_ascii_codes (He.ga K "ascii_codes") fd) :
    FnOk P w K mg base (L2.CX P w) 1 (He.ga K "ascii_codes") fd ["text"] (spM K (fun (p : Str × Unit) => m_ascii_codes p.1)) := by
  refine fn_ok F sc_ascii_codes (fun y => rfl) (fun cdv A outer s H E hr => ?_)
  refine ⟨_, (pss_cons (ps_setLc (i := 1) (own := [("character", 3)]) rfl sc_ascii_codes.nd rfl rfl (sw_true rfl rfl rfl (by decide +kernel)) (pi_str (pv 0)) (blkOk_by (own := [("character", 3)]) (N := ["text", "codes", "code", "character"]) (sc := defScope s_ascii_codes) (by decide +kernel)) (fun _ _ _ _ _ => (pg_name (i := 3) sc_ascii_codes.nd rfl (Or.inl rfl))) (fun _ _ _ _ _ => pts_nil) (fun _ _ _ _ _ => (pe_callB call_ord (by rfl) T.n_ord (by decide +kernel) (pa_cons (pv 3) pa_nil)))) (pss_cons (ps_for (passes_of rfl) rfl (pi_list (pv 1)) (pg_name (i := 2) sc_ascii_codes.nd rfl (Or.inl rfl)) (pss_one (ps_if (PW.pt (pw_or (pt_cmpR op_lt (pv 2) pe_int (nomark _)) (pw_or (pt_cmpR op_gt (pv 2) pe_int (nomark _)) (pw_or1 (pt_cmpR op_eq (pv 2) (pe_glob (v := .int 37) rfl T.c_PERCENT.choose_spec ⟨_, rfl⟩) (nomark _)))))) (pss_one (ps_raise rfl (takes_of rfl rfl rfl rfl) (pmk_own PySem.F.excBase_ValueError T.x_Malformed T.g_Malformed T.k_Malformed (raises_own T.b_Malformed T.t_Malformed) rfl))) pss_nil))) (pss_one (ps_ret (pv 1))))), ?_⟩
  rintro ⟨text_, ⟨⟩⟩ F0 H0 Q KP L
  show Blk K F0 H0 KP _ [iM text_, none, none, none] (m_ascii_codes text_)
  unfold m_ascii_codes
  have hs_ := ((ev_ofN (ev_comp (tst := fun (x24 : Str) => Res.ok true) (el := fun (x24 : Str) => Res.need ((x24).length = 1) (Res.ok (((x24).cps.getD 0 0 : Nat) : Int))) (ws := [3]) (ei_str (ev_var (i := 0) (x := text_) rfl)) (fun _ => gx_name) (fun x24 => et_yes) (fun x24 => ((ev_cb cx_ord (fun _ _ h => need_mild h) (ea_cons (ev_var (i := 3) (x := x24) rfl) ea_nil)) : EvX K WT [iM text_, none, none, iM x24] _ _)))) : EvX K (W0 E) [iM text_, none, none, none] _ _)
  refine blk_seq (blk_set (i := 1) L trivial (by exact hs_) fun codes_ => ?_)
  show Blk _ _ _ _ _ [iM text_, iM codes_, none, none] _
  try refine Blk.nx ?_
  have hi_ := ((ei_list (ev_var (i := 1) (x := codes_) rfl)) : EvI K (W0 E) [iM text_, iM codes_, none, none] _ _)
  refine blk_seq (blk_for (S := Unit) (m_ascii_codes_l1 (m_ascii_codes_k2 codes_)) (m_ascii_codes_k2 codes_) (fun _ => [iM text_, iM codes_, none, none]) () L trivial (by exact hi_) (fun _ => gx_name) (.same (.same (.same (.same .nil)))) (fun _ => rfl) ?_ ?_)
  · intro F1 L1 hB1 x26 r1 s_ N_ hN1
    obtain ⟨⟩ := s_
    show Blk _ _ _ _ _ [iM text_, iM codes_, iM x26, none] (m_ascii_codes_l1 (m_ascii_codes_k2 codes_) (x26 :: r1) ())
    rw [m_ascii_codes_l1]
    show Blk _ _ _ _ _ _ ((fun (code_ : Int) => _) x26)
    generalize x26 = code_
    show Blk _ _ _ _ _ [iM text_, iM codes_, iM code_, none] _
    have ht_ := ((et_or (et_test (ev_op (opx_B0 (g := fun i j => decide (i < j))) mild_ok (ev_var (i := 2) (x := code_) rfl) (ev_int (i := 32)))) (et_or (et_test (ev_op (opx_B0 (g := fun i j => decide (j < i))) mild_ok (ev_var (i := 2) (x := code_) rfl) (ev_int (i := 126)))) (et_test (ev_op opx_eqI mild_ok (ev_var (i := 2) (x := code_) rfl) (ev_int (i := 37)))))) : EvT K (W0 E) [iM text_, iM codes_, iM code_, none] _ _)
    refine blk_if2 L1 trivial (by exact ht_) ?_ ?_
    · exact blk_raise L1 trivial
    · refine blk_nil ?_
      try refine Blk.nx ?_
      exact (hN1 ()).weak (.same (.same (.drop (.same .nil))))
  · intro _
    show Blk _ _ _ _ _ [iM text_, iM codes_, none, none] ((m_ascii_codes_k2 codes_) ())
    unfold m_ascii_codes_k2
    try refine Blk.nx ?_
    have hr_ := ((ev_var (i := 1) (x := codes_) rfl) : EvX K (W0 E) [iM text_, iM codes_, none, none] _ _)
    exact blk_ret L trivial (by exact hr_)
noncomputable def m_u_law_cell (script_ : (Ro Int)) (k_ : Int) : Res Int :=
  ((Res.ok (decide (k_ < ((script_).xs.length : Int))))).bind fun b => cond b   (((idx (script_).xs k_).bind fun a28 => Res.ok (a28, ())).bind fun p30 => Res.ok p30.1)   ((Res.ok (0 : Int)))
theorem ok_u_law_cell {P : Program} {w : World} {K : PySem.W.Frag} {mg : Str → Option Value} {base : Heap} (T : Facts P w K mg) {fd : FuncData} (F : FnP K "_law_cell" "_law_cell" s_u_law_cell (He.ga K "_law_cell") fd) :
    FnOk P w K mg base (L2.CX P w) 1 (He.ga K "_law_cell") fd ["script", "k"] (spM K (fun (p : (Ro Int) × Int × Unit) => m_u_law_cell p.1 p.2.1)) := by
  refine fn_ok F sc_u_law_cell (fun y => rfl) (fun cdv A outer s H E hr => ?_)
  refine ⟨_, (pss_cons (ps_if (pt_cmpR op_lt (pv 1) (pe_callB (cr_len rfl) (by rfl) T.n_len (by decide +kernel) (pa_cons (pv 0) pa_nil)) (nomark _)) (pss_one (ps_ret (pe_callTy call_int1 (by rfl) T.n_int (by decide +kernel) (pa_cons (pe_ix (cr_ixL rfl) (pv 0) (pv 1) (fun _ _ => rfl)) pa_nil)))) pss_nil) (pss_one (ps_ret pe_int))), ?_⟩
  rintro ⟨script_, k_, ⟨⟩⟩ F0 H0 Q KP L
  show Blk K F0 H0 KP _ [iM script_, iM k_] (m_u_law_cell script_ k_)
  unfold m_u_law_cell
  have ht_ := ((et_test (ev_op (opx_B0 (g := fun i j => decide (i < j))) mild_ok (ev_var (i := 1) (x := k_) rfl) (ev_cb cx_lenRo (fun _ _ h => nomatch h) (ea_cons (ev_var (i := 0) (x := script_) rfl) ea_nil)))) : EvT K (W0 E) [iM script_, iM k_] _ _)
  refine blk_seq (blk_if2 L trivial (by exact ht_) ?_ ?_)
  · have hr_ := ((ev_cb cx_int (fun _ _ h => nomatch h) (ea_cons (ev_op opx_ixR (fun x y => idx_mild x.xs y) (ev_var (i := 0) (x := script_) rfl) (ev_var (i := 1) (x := k_) rfl)) ea_nil)) : EvX K (W0 E) [iM script_, iM k_] _ _)
    exact blk_ret L trivial (by exact hr_)
  · refine blk_nil ?_
    try refine Blk.nx ?_
    have hr_ := ((ev_int (i := 0)) : EvX K (W0 E) [iM script_, iM k_] _ _)
    exact blk_ret L trivial (by exact hr_)
noncomputable def m_u_law_bytes_l1 (k1 : Int × (List Int) → Res (List Int)) : List Int → Int × (List Int) → Res (List Int)
  | [], s => k1 s
  | x31 :: r1, (rest_, data_) =>   (fun (k_ : Int) => ((Res.ok (rest_ % (256 : Int)))).bind fun (y32 : Int) => Res.need (data_.length < 16777216) ((fun (data_ : (List Int)) =>   ((Res.ok (rest_ / (256 : Int)))).bind fun (rest_ : Int) =>   m_u_law_bytes_l1 k1 r1 (rest_, data_)) (data_ ++ [y32]))) x31
noncomputable def m_u_law_bytes_k2 : Int × (List Int) → Res (List Int) := fun (rest_, data_) =>   (Res.ok data_)
noncomputable def m_u_law_bytes_l5 (k5 : (List Int) × Int → Res (List Int)) : List Int → (List Int) × Int → Res (List Int)
  | [], s => k5 s
  | x37 :: r5, (data_, state_) =>   (fun (k_ : Int) => ((Res.ok (((state_ * (16807 : Int)) + k_) % (2147483647 : Int)))).bind fun (state_ : Int) =>   ((Res.ok ((state_ / (251 : Int)) % (256 : Int)))).bind fun (y38 : Int) => Res.need (data_.length < 16777216) ((fun (data_ : (List Int)) =>   m_u_law_bytes_l5 k5 r5 (data_, state_)) (data_ ++ [y38]))) x37
noncomputable def m_u_law_bytes_k6 : (List Int) × Int → Res (List Int) := fun (data_, state_) =>   (Res.ok data_)
noncomputable def m_u_law_bytes (cell_ : Int) (salt_ : Int) (count_ : Int) : Res (List Int) :=
  ((Res.ok (Int.natAbs cell_ : Int))).bind fun (rest_ : Int) =>   ((Res.ok ([] : List Int))).bind fun (data_ : (List Int)) =>   ((Res.ok (decide (((10 : Int) ^ (18 : Int).toNat) ≤ rest_)))).bind fun b => cond b   (((Res.ok (rest_ - ((10 : Int) ^ (18 : Int).toNat)))).bind fun (rest_ : Int) =>   (Res.need (okRange count_) (Res.ok (pyRange 0 count_))).bind fun (xs34 : List Int) => m_u_law_bytes_l1 (m_u_law_bytes_k2) xs34 (rest_, data_))   (((Res.ok (decide ((rest_ % (7 : Int)) = (5 : Int))))).bind fun b => cond b   ((Res.need (okRange count_) (Res.ok (pyRange 0 count_))).bind fun (xs36 : List Int) => Res.need (xs36.length ≤ 16777216) (compL (fun (x35 : Int) => Res.ok true) (fun (x35 : Int) => idx ([(0 : Int), (255 : Int), (1 : Int), (128 : Int), (127 : Int)] : List Int) ((rest_ / (7 : Int)) % (5 : Int))) xs36))   (((Res.ok ((((rest_ * (48271 : Int)) + (salt_ * (69621 : Int))) + (12345 : Int)) % (2147483647 : Int)))).bind fun (state_ : Int) =>   (Res.need (okRange count_) (Res.ok (pyRange 0 count_))).bind fun (xs40 : List Int) => m_u_law_bytes_l5 (m_u_law_bytes_k6) xs40 (data_, state_)))
theorem ok_u_law_bytes {P : Program} {w : World} {K : PySem.W.Frag} {mg : Str → Option Value} {base : Heap} (T : Facts P w K mg) {fd : FuncData} (F : FnP K "_law_bytes" "_law_bytes" s_u_law_bytes (He.ga K "_law_bytes") fd) :
    FnOk P w K mg base (L2.CX P w) 1 (He.ga K "_law_bytes") fd ["cell", "salt", "count"] (spM K (fun (p : Int × Int × Int × Unit) => m_u_law_bytes p.1 p.2.1 p.2.2.1)) := by
  refine fn_ok F sc_u_law_bytes (fun y => rfl) (fun cdv A outer s H E hr => ?_)
  refine ⟨_, (pss_cons (ps_set (i := 3) sc_u_law_bytes.nd rfl (Or.inr rfl) (pe_callB call_abs (by rfl) T.n_abs (by decide +kernel) (pa_cons (pv 0) pa_nil))) (pss_cons (ps_set (i := 4) sc_u_law_bytes.nd rfl (Or.inl rfl) (pe_lst pa_nil)) (pss_cons (ps_if (pt_cmpR op_ge (pv 3) (pe_op op_pow pe_int pe_int) (nomark _)) (pss_cons (ps_set (i := 3) sc_u_law_bytes.nd rfl (Or.inr rfl) (pe_op op_sub (pv 3) (pe_op op_pow pe_int pe_int))) (pss_cons (ps_for (passes_of rfl) rfl (pi_range1 rfl T.n_range (pa_cons (pv 2) pa_nil)) (pg_name (i := 5) sc_u_law_bytes.nd rfl (Or.inl rfl)) (pss_cons (ps_expr (pe_bm PySem.F.plainAttrs_list PySem.F.slot_list_append PySem.F.type_list_append mt_append (pv 4) (pa_cons (pe_op op_mod (pv 3) pe_int) pa_nil))) (pss_one (ps_set (i := 3) sc_u_law_bytes.nd rfl (Or.inr rfl) (pe_op op_fdiv (pv 3) pe_int))))) (pss_one (ps_ret (pv 4))))) pss_nil) (pss_cons (ps_if (pt_cmpR op_eq (pe_op op_mod (pv 3) pe_int) pe_int (nomark _)) (pss_one (ps_ret (pe_lc (own := [("k", 5)]) rfl sc_u_law_bytes.nd (pi_range1 rfl T.n_range (pa_cons (pv 2) pa_nil)) (blkOk_by (own := [("k", 5)]) (N := ["cell", "salt", "count", "rest", "data", "k", "state"]) (sc := defScope s_u_law_bytes) (by decide +kernel)) (fun _ _ _ _ _ => (pg_name (i := 5) sc_u_law_bytes.nd rfl (Or.inl rfl))) (fun _ _ _ _ _ => pts_nil) (fun _ _ _ _ _ => (pe_ix (cr_ixL rfl) (pe_lst (pa_cons pe_int (pa_cons pe_int (pa_cons pe_int (pa_cons pe_int (pa_cons pe_int pa_nil)))))) (pe_op op_mod (pe_op op_fdiv (pv 3) pe_int) pe_int) (fun _ _ => rfl)))))) pss_nil) (pss_cons (ps_set (i := 6) sc_u_law_bytes.nd rfl (Or.inl rfl) (pe_op op_mod (pe_op op_add (pe_op op_add (pe_op op_mul (pv 3) pe_int) (pe_op op_mul (pv 1) pe_int)) pe_int) pe_int)) (pss_cons (ps_for (passes_of rfl) rfl (pi_range1 rfl T.n_range (pa_cons (pv 2) pa_nil)) (pg_name (i := 5) sc_u_law_bytes.nd rfl (Or.inl rfl)) (pss_cons (ps_set (i := 6) sc_u_law_bytes.nd rfl (Or.inl rfl) (pe_op op_mod (pe_op op_add (pe_op op_mul (pv 6) pe_int) (pv 5)) pe_int)) (pss_one (ps_expr (pe_bm PySem.F.plainAttrs_list PySem.F.slot_list_append PySem.F.type_list_append mt_append (pv 4) (pa_cons (pe_op op_mod (pe_op op_fdiv (pv 6) pe_int) pe_int) pa_nil)))))) (pss_one (ps_ret (pv 4))))))))), ?_⟩
  rintro ⟨cell_, salt_, count_, ⟨⟩⟩ F0 H0 Q KP L
  show Blk K F0 H0 KP _ [iM cell_, iM salt_, iM count_, none, none, none, none] (m_u_law_bytes cell_ salt_ count_)
  unfold m_u_law_bytes
  have hs_ := ((ev_cb cx_abs (fun _ _ h => nomatch h) (ea_cons (ev_var (i := 0) (x := cell_) rfl) ea_nil)) : EvX K (W0 E) [iM cell_, iM salt_, iM count_, none, none, none, none] _ _)
  refine blk_seq (blk_set (i := 3) L trivial (by exact hs_) fun rest_ => ?_)
  show Blk _ _ _ _ _ [iM cell_, iM salt_, iM count_, iM rest_, none, none, none] _
  try refine Blk.nx ?_
  have hs_ := ((en_lst (f := (fun y => ([] : List Int))) ea_nil (fun _ => rfl) (fun _ => by show 0 ≤ 100000; decide)) : EvN K (W0 E) [iM cell_, iM salt_, iM count_, iM rest_, none, none, none] _ _)
  refine blk_seq (blk_own (i := 4) L trivial (by exact hs_) fun data_ => ?_)
  show Blk _ _ _ _ _ [iM cell_, iM salt_, iM count_, iM rest_, oW data_, none, none] _
  try refine Blk.nx ?_
  have ht_ := ((et_test (ev_op (opx_B0 (g := fun i j => decide (j ≤ i))) mild_ok (ev_var (i := 3) (x := rest_) rfl) (ev_opI (C := CPow) (g := fun i j => i ^ j.toNat) (fun x y h1 h2 => by cases h1; cases h2; exact ⟨by decide, by decide, by decide⟩) (ev_int (i := 10)) (ev_int (i := 18))))) : EvT K (W0 E) [iM cell_, iM salt_, iM count_, iM rest_, oW data_, none, none] _ _)
  refine blk_seq (blk_if2 L trivial (by exact ht_) ?_ ?_)
  · have hs_ := ((ev_op (opx_I0 (g := fun i j => i - j)) mild_ok (ev_var (i := 3) (x := rest_) rfl) (ev_opI (C := CPow) (g := fun i j => i ^ j.toNat) (fun x y h1 h2 => by cases h1; cases h2; exact ⟨by decide, by decide, by decide⟩) (ev_int (i := 10)) (ev_int (i := 18)))) : EvX K (W0 E) [iM cell_, iM salt_, iM count_, iM rest_, oW data_, none, none] _ _)
    refine blk_seq (blk_set (i := 3) L trivial (by exact hs_) fun rest_ => ?_)
    show Blk _ _ _ _ _ [iM cell_, iM salt_, iM count_, iM rest_, oW data_, none, none] _
    try refine Blk.nx ?_
    have hi_ := ((ei_range1 (ev_var (i := 2) (x := count_) rfl)) : EvI K (W0 E) [iM cell_, iM salt_, iM count_, iM rest_, oW data_, none, none] _ _)
    refine blk_seq (blk_for (S := Int × (List Int)) (m_u_law_bytes_l1 (m_u_law_bytes_k2)) (m_u_law_bytes_k2) (fun (rest_, data_) => [iM cell_, iM salt_, iM count_, iM rest_, oW data_, none, none]) (rest_, data_) L trivial (by exact hi_) (fun _ => gx_name) (.same (.same (.same (.same (.same (.same (.same .nil))))))) (fun _ => rfl) ?_ ?_)
    · intro F1 L1 hB1 x31 r1 s_ N_ hN1
      obtain ⟨rest_, data_⟩ := s_
      show Blk _ _ _ _ _ [iM cell_, iM salt_, iM count_, iM rest_, oW data_, iM x31, none] (m_u_law_bytes_l1 (m_u_law_bytes_k2) (x31 :: r1) (rest_, data_))
      rw [m_u_law_bytes_l1]
      show Blk _ _ _ _ _ _ ((fun (k_ : Int) => _) x31)
      generalize x31 = k_
      show Blk _ _ _ _ _ [iM cell_, iM salt_, iM count_, iM rest_, oW data_, iM k_, none] _
      have hs_ := ((ev_opI (C := (fun _ j => 0 < j)) (g := fun i j => i % j) (fun x y _ h => by cases h; (show (0 : Int) < _; decide)) (ev_var (i := 3) (x := rest_) rfl) (ev_int (i := 256))) : EvX K (W0 E) [iM cell_, iM salt_, iM count_, iM rest_, oW data_, iM k_, none] _ _)
      refine blk_seq (blk_app (i := 4) (xs := data_) L1 trivial rfl (by exact hs_) fun y33 => ?_)
      show Blk _ _ _ _ _ [iM cell_, iM salt_, iM count_, iM rest_, oW ((data_ ++ [y33])), iM k_, none] ((fun (data_ : (List Int)) => _) (data_ ++ [y33]))
      generalize data_ ++ [y33] = data_
      show Blk _ _ _ _ _ [iM cell_, iM salt_, iM count_, iM rest_, oW data_, iM k_, none] _
      try refine Blk.nx ?_
      have hs_ := ((ev_opI (C := CDiv) (g := fun i j => i / j) (fun x y _ h => by cases h; exact ⟨by decide, by decide⟩) (ev_var (i := 3) (x := rest_) rfl) (ev_int (i := 256))) : EvX K (W0 E) [iM cell_, iM salt_, iM count_, iM rest_, oW data_, iM k_, none] _ _)
      refine blk_set (i := 3) L1 trivial (by exact hs_) fun rest_ => ?_
      show Blk _ _ _ _ _ [iM cell_, iM salt_, iM count_, iM rest_, oW data_, iM k_, none] _
      try refine Blk.nx ?_
      exact (hN1 (rest_, data_)).weak (.same (.same (.same (.same (.same (.drop (.same .nil)))))))
    · rintro ⟨rest_, data_⟩
      show Blk _ _ _ _ _ [iM cell_, iM salt_, iM count_, iM rest_, oW data_, none, none] ((m_u_law_bytes_k2) (rest_, data_))
      unfold m_u_law_bytes_k2
      try refine Blk.nx ?_
      refine blk_freeze 4 rfl ?_
      show Blk _ _ _ _ _ [iM cell_, iM salt_, iM count_, iM rest_, iM data_, none, none] _
      have hr_ := ((ev_var (i := 4) (x := data_) rfl) : EvX K (W0 E) [iM cell_, iM salt_, iM count_, iM rest_, iM data_, none, none] _ _)
      exact blk_ret L trivial (by exact hr_)
  · refine blk_nil ?_
    try refine Blk.nx ?_
    have ht_ := ((et_test (ev_op opx_eqI mild_ok (ev_opI (C := (fun _ j => 0 < j)) (g := fun i j => i % j) (fun x y _ h => by cases h; (show (0 : Int) < _; decide)) (ev_var (i := 3) (x := rest_) rfl) (ev_int (i := 7))) (ev_int (i := 5)))) : EvT K (W0 E) [iM cell_, iM salt_, iM count_, iM rest_, oW data_, none, none] _ _)
    refine blk_seq (blk_if2 L trivial (by exact ht_) ?_ ?_)
    · refine blk_freeze 4 rfl ?_
      show Blk _ _ _ _ _ [iM cell_, iM salt_, iM count_, iM rest_, iM data_, none, none] _
      have hr_ := ((ev_ofN (ev_comp (tst := fun (x35 : Int) => Res.ok true) (el := fun (x35 : Int) => idx ([(0 : Int), (255 : Int), (1 : Int), (128 : Int), (127 : Int)] : List Int) ((rest_ / (7 : Int)) % (5 : Int))) (ws := [5]) (ei_range1 (ev_var (i := 2) (x := count_) rfl)) (fun _ => gx_name) (fun x35 => et_yes) (fun x35 => ((ev_op opx_ixL (fun x y => idx_mild x y) (ev_ofN (en_lst (f := (fun y => ([y.1, y.2.1, y.2.2.1, y.2.2.2.1, y.2.2.2.2.1] : List Int))) (ea_cons (ev_int (i := 0)) (ea_cons (ev_int (i := 255)) (ea_cons (ev_int (i := 1)) (ea_cons (ev_int (i := 128)) (ea_cons (ev_int (i := 127)) ea_nil))))) (fun _ => rfl) (fun _ => by show 5 ≤ 100000; decide))) (ev_opI (C := (fun _ j => 0 < j)) (g := fun i j => i % j) (fun x y _ h => by cases h; (show (0 : Int) < _; decide)) (ev_opI (C := CDiv) (g := fun i j => i / j) (fun x y _ h => by cases h; exact ⟨by decide, by decide⟩) (ev_var (i := 3) (x := rest_) rfl) (ev_int (i := 7))) (ev_int (i := 5)))) : EvX K WT [iM cell_, iM salt_, iM count_, iM rest_, iM data_, iM x35, none] _ _)))) : EvX K (W0 E) [iM cell_, iM salt_, iM count_, iM rest_, iM data_, none, none] _ _)
      exact blk_ret L trivial (by exact hr_)
    · refine blk_nil ?_
      try refine Blk.nx ?_
      have hs_ := ((ev_opI (C := (fun _ j => 0 < j)) (g := fun i j => i % j) (fun x y _ h => by cases h; (show (0 : Int) < _; decide)) (ev_op (opx_I0 (g := fun i j => i + j)) mild_ok (ev_op (opx_I0 (g := fun i j => i + j)) mild_ok (ev_opI (C := CMul) (g := fun i j => i * j) (fun x y _ h => by cases h; exact .inr (by decide)) (ev_var (i := 3) (x := rest_) rfl) (ev_int (i := 48271))) (ev_opI (C := CMul) (g := fun i j => i * j) (fun x y _ h => by cases h; exact .inr (by decide)) (ev_var (i := 1) (x := salt_) rfl) (ev_int (i := 69621)))) (ev_int (i := 12345))) (ev_int (i := 2147483647))) : EvX K (W0 E) [iM cell_, iM salt_, iM count_, iM rest_, oW data_, none, none] _ _)
      refine blk_seq (blk_set (i := 6) L trivial (by exact hs_) fun state_ => ?_)
      show Blk _ _ _ _ _ [iM cell_, iM salt_, iM count_, iM rest_, oW data_, none, iM state_] _
      try refine Blk.nx ?_
      have hi_ := ((ei_range1 (ev_var (i := 2) (x := count_) rfl)) : EvI K (W0 E) [iM cell_, iM salt_, iM count_, iM rest_, oW data_, none, iM state_] _ _)
      refine blk_seq (blk_for (S := (List Int) × Int) (m_u_law_bytes_l5 (m_u_law_bytes_k6)) (m_u_law_bytes_k6) (fun (data_, state_) => [iM cell_, iM salt_, iM count_, iM rest_, oW data_, none, iM state_]) (data_, state_) L trivial (by exact hi_) (fun _ => gx_name) (.same (.same (.same (.same (.same (.same (.same .nil))))))) (fun _ => rfl) ?_ ?_)
      · intro F5 L5 hB5 x37 r5 s_ N_ hN5
        obtain ⟨data_, state_⟩ := s_
        show Blk _ _ _ _ _ [iM cell_, iM salt_, iM count_, iM rest_, oW data_, iM x37, iM state_] (m_u_law_bytes_l5 (m_u_law_bytes_k6) (x37 :: r5) (data_, state_))
        rw [m_u_law_bytes_l5]
        show Blk _ _ _ _ _ _ ((fun (k_ : Int) => _) x37)
        generalize x37 = k_
        show Blk _ _ _ _ _ [iM cell_, iM salt_, iM count_, iM rest_, oW data_, iM k_, iM state_] _
        have hs_ := ((ev_opI (C := (fun _ j => 0 < j)) (g := fun i j => i % j) (fun x y _ h => by cases h; (show (0 : Int) < _; decide)) (ev_op (opx_I0 (g := fun i j => i + j)) mild_ok (ev_opI (C := CMul) (g := fun i j => i * j) (fun x y _ h => by cases h; exact .inr (by decide)) (ev_var (i := 6) (x := state_) rfl) (ev_int (i := 16807))) (ev_var (i := 5) (x := k_) rfl)) (ev_int (i := 2147483647))) : EvX K (W0 E) [iM cell_, iM salt_, iM count_, iM rest_, oW data_, iM k_, iM state_] _ _)
        refine blk_seq (blk_set (i := 6) L5 trivial (by exact hs_) fun state_ => ?_)
        show Blk _ _ _ _ _ [iM cell_, iM salt_, iM count_, iM rest_, oW data_, iM k_, iM state_] _
        try refine Blk.nx ?_
        have hs_ := ((ev_opI (C := (fun _ j => 0 < j)) (g := fun i j => i % j) (fun x y _ h => by cases h; (show (0 : Int) < _; decide)) (ev_opI (C := CDiv) (g := fun i j => i / j) (fun x y _ h => by cases h; exact ⟨by decide, by decide⟩) (ev_var (i := 6) (x := state_) rfl) (ev_int (i := 251))) (ev_int (i := 256))) : EvX K (W0 E) [iM cell_, iM salt_, iM count_, iM rest_, oW data_, iM k_, iM state_] _ _)
        refine blk_app (i := 4) (xs := data_) L5 trivial rfl (by exact hs_) fun y39 => ?_
        show Blk _ _ _ _ _ [iM cell_, iM salt_, iM count_, iM rest_, oW ((data_ ++ [y39])), iM k_, iM state_] ((fun (data_ : (List Int)) => _) (data_ ++ [y39]))
        generalize data_ ++ [y39] = data_
        show Blk _ _ _ _ _ [iM cell_, iM salt_, iM count_, iM rest_, oW data_, iM k_, iM state_] _
        try refine Blk.nx ?_
        exact (hN5 (data_, state_)).weak (.same (.same (.same (.same (.same (.drop (.same .nil)))))))
      · rintro ⟨data_, state_⟩
        show Blk _ _ _ _ _ [iM cell_, iM salt_, iM count_, iM rest_, oW data_, none, iM state_] ((m_u_law_bytes_k6) (data_, state_))
        unfold m_u_law_bytes_k6
        try refine Blk.nx ?_
        refine blk_freeze 4 rfl ?_
        show Blk _ _ _ _ _ [iM cell_, iM salt_, iM count_, iM rest_, iM data_, none, iM state_] _
        have hr_ := ((ev_var (i := 4) (x := data_) rfl) : EvX K (W0 E) [iM cell_, iM salt_, iM count_, iM rest_, iM data_, none, iM state_] _ _)
        exact blk_ret L trivial (by exact hr_)
noncomputable def m_u_law_digits  : Res Str :=
  (Res.ok ("0123456789abcdef" : Str))
theorem ok_u_law_digits {P : Program} {w : World} {K : PySem.W.Frag} {mg : Str → Option Value} {base : Heap} (T : Facts P w K mg) {fd : FuncData} (F : FnP K "_law_digits" "_law_digits" s_u_law_digits (He.ga K "_law_digits") fd) :
    FnOk P w K mg base (L2.CX P w) 1 (He.ga K "_law_digits") fd [] (spM K (fun (p : Unit) => m_u_law_digits )) := by
  refine fn_ok F sc_u_law_digits (fun y => rfl) (fun cdv A outer s H E hr => ?_)
  refine ⟨_, (pss_one (ps_ret pe_str)), ?_⟩
  rintro ⟨⟨⟩⟩ F0 H0 Q KP L
  show Blk K F0 H0 KP _ [] (m_u_law_digits )
  unfold m_u_law_digits
  have hr_ := ((ev_str (x := "0123456789abcdef")) : EvX K (W0 E) [] _ _)
  exact blk_ret L trivial (by exact hr_)
noncomputable def m_u_law_percent  : Res Str :=
  (Res.ok ("\t\n" : Str))
theorem ok_u_law_percent {P : Program} {w : World} {K : PySem.W.Frag} {mg : Str → Option Value} {base : Heap} (T : Facts P w K mg) {fd : FuncData} (F : FnP K "_law_percent" "_law_percent" s_u_law_percent (He.ga K "_law_percent") fd) :
    FnOk P w K mg base (L2.CX P w) 1 (He.ga K "_law_percent") fd [] (spM K (fun (p : Unit) => m_u_law_percent )) := by
  refine fn_ok F sc_u_law_percent (fun y => rfl) (fun cdv A outer s H E hr => ?_)
  refine ⟨_, (pss_one (ps_ret pe_str)), ?_⟩
  rintro ⟨⟨⟩⟩ F0 H0 Q KP L
  show Blk K F0 H0 KP _ [] (m_u_law_percent )
  unfold m_u_law_percent
  have hr_ := ((ev_str (x := "\t\n")) : EvX K (W0 E) [] _ _)
  exact blk_ret L trivial (by exact hr_)
noncomputable def m_u_law_chars  : Res Str :=
  ((Res.ok (" !\"#$&'()*+,-./0123456789:;<=>?@ABCDEFGHIJKLMNOPQRSTUVWXYZ[\\]^_" : Str))).bind fun (signs_ : Str) =>   Res.need (signs_.length + ("`abcdefghijklmnopqrstuvwxyz{|}~" : Str).length ≤ 16777216) (Res.ok (signs_ ++ ("`abcdefghijklmnopqrstuvwxyz{|}~" : Str)))
theorem ok_u_law_chars {P : Program} {w : World} {K : PySem.W.Frag} {mg : Str → Option Value} {base : Heap} (T : Facts P w K mg) {fd : FuncData} (F : FnP K "_law_chars" "_law_chars" s_u_law_chars (He.ga K "_law_chars") fd) :
    FnOk P w K mg base (L2.CX P w) 1 (He.ga K "_law_chars") fd [] (spM K (fun (p : Unit) => m_u_law_chars )) := by
  refine fn_ok F sc_u_law_chars (fun y => rfl) (fun cdv A outer s H E hr => ?_)
  refine ⟨_, (pss_cons (ps_set (i := 0) sc_u_law_chars.nd rfl (Or.inl rfl) pe_str) (pss_one (ps_ret (pe_op op_add_str (pv 0) pe_str)))), ?_⟩
  rintro ⟨⟨⟩⟩ F0 H0 Q KP L
  show Blk K F0 H0 KP _ [none] (m_u_law_chars )
  unfold m_u_law_chars
  have hs_ := ((ev_str (x := " !\"#$&'()*+,-./0123456789:;<=>?@ABCDEFGHIJKLMNOPQRSTUVWXYZ[\\]^_")) : EvX K (W0 E) [none] _ _)
  refine blk_seq (blk_set (i := 0) L trivial (by exact hs_) fun signs_ => ?_)
  show Blk _ _ _ _ _ [iM signs_] _
  try refine Blk.nx ?_
  have hr_ := ((ev_op opx_addT mild_need (ev_var (i := 0) (x := signs_) rfl) (ev_str (x := "`abcdefghijklmnopqrstuvwxyz{|}~"))) : EvX K (W0 E) [iM signs_] _ _)
  exact blk_ret L trivial (by exact hr_)
noncomputable def m_u_law_told_k2 : Res D :=   (Res.ok (toD ("other" : Str)))
noncomputable def m_u_law_told (text_ : Str) (which_ : Int) : Res D :=
  tryR (fun c => decide (c ∈ errs)) (fun c => subE c "CurveError")   (((Res.ok (decide (which_ = (0 : Int))))).bind fun b => cond b   (((m_from_digits text_).bind fun (x : (List Int)) => Res.ok (toD x)).bind fun x => Res.ok (.back x))   (((m_ascii_codes text_).bind fun (x : (List Int)) => Res.ok (toD x)).bind fun x => Res.ok (.back x)))   (fun (_ : Unit) => Res.stuck) (fun qc_ => (cond (subE qc_ "Malformed") ((Res.ok (!(subE qc_ "OutOfRange")))) (Res.ok false)).bind fun b => cond b   ((Res.ok (toD (T2.mk ("refused" : Str) ("malformed" : Str)))))   ((m_u_law_told_k2)))
theorem ok_u_law_told {P : Program} {w : World} {K : PySem.W.Frag} {mg : Str → Option Value} {base : Heap} (T : Facts P w K mg) {fd : FuncData} (F : FnP K "_law_told" "_law_told" s_u_law_told (He.ga K "_law_told") fd) :
    FnOk P w K mg base (L2.CX P w) 3 (He.ga K "_law_told") fd ["text", "which"] (spM K (fun (p : Str × Int × Unit) => m_u_law_told p.1 p.2.1)) := by
  obtain ⟨fd_ascii_codes, F_ascii_codes⟩ := T.d_ascii_codes
  have G_ascii_codes := ok_ascii_codes (P := P) (w := w) (base := base) T F_ascii_codes
  have b_ascii_codes : Binds K fd_ascii_codes ["text"] [] := F_ascii_codes.bindsN fun _ _ _ _ _ _ us hl => match us, hl with | [_], _ => rfl
  obtain ⟨fd_from_digits, F_from_digits⟩ := T.d_from_digits
  have G_from_digits := ok_from_digits (P := P) (w := w) (base := base) T F_from_digits
  have b_from_digits : Binds K fd_from_digits ["text"] [] := F_from_digits.bindsN fun _ _ _ _ _ _ us hl => match us, hl with | [_], _ => rfl
  refine fn_ok F sc_u_law_told (fun y => rfl) (fun cdv A outer s H E hr => ?_)
  refine ⟨_, (pss_cons (ps_tryW (i := 2) rfl rfl sc_u_law_told.nd rfl rfl ⟨rfl, by decide, .inl T.g_CurveError⟩ (takes_of rfl rfl rfl rfl) (fun qW_ qpn_ qxe_ qtk_ qpo_ => (pss_cons (ps_if (pt_cmpR op_eq (pv 1) pe_int (nomark _)) (pss_one (ps_ret (pe_callS G_from_digits (hr.mono (by decide)) rfl T.g_from_digits F_from_digits.kp b_from_digits (fun σ => passAt qtk_ σ) (pa_cons (pv 0) pa_nil)))) pss_nil) (pss_one (ps_ret (pe_callS G_ascii_codes (hr.mono (by decide)) rfl T.g_ascii_codes F_ascii_codes.kp b_ascii_codes (fun σ => passAt qtk_ σ) (pa_cons (pv 0) pa_nil)))))) (fun qa_ qoe_ qcls_ qd_ qpn_ qhz_ qhf_ => (pss_one (ps_if (PW.pt (pw_and (pt_val (pe_callB (call_isE2 qhz_ qhf_) (by rfl) T.n_isinstance (by decide +kernel) (pa_cons (pv 2) (pa_cons (pe_glob (v := .ref (He.ga K "Malformed")) rfl T.g_Malformed rfl) pa_nil)))) (pw_and1 (pt_not (pt_val (pe_callB (call_isE2 qhz_ qhf_) (by rfl) T.n_isinstance (by decide +kernel) (pa_cons (pv 2) (pa_cons (pe_glob (v := .ref (He.ga K "OutOfRange")) rfl T.g_OutOfRange rfl) pa_nil)))))))) (pss_one (ps_ret (pe_tup (pa_cons pe_str (pa_cons pe_str pa_nil))))) pss_nil)))) (pss_one (ps_ret pe_str))), ?_⟩
  rintro ⟨text_, which_, ⟨⟩⟩ F0 H0 Q KP L
  show Blk K F0 H0 KP _ [iM text_, iM which_, none] (m_u_law_told text_ which_)
  unfold m_u_law_told
  refine blk_seq (blk_with (m1 := (m_u_law_told_k2)) (env1 := [iM text_, iM which_, none]) ?_ ?_)
  · show Blk _ _ _ _ _ [iM text_, iM which_, none] (m_u_law_told_k2)
    unfold m_u_law_told_k2
    try refine Blk.nx ?_
    have hr_ := ((ev_as (ev_str (x := "other")) toD (fun _ => rfl) rfl) : EvX K (W0 E) [iM text_, iM which_, none] _ _)
    exact blk_ret L trivial (by exact hr_)
  · intro hr_
    refine blk_tryW (S := Unit) (envS := fun _ => [iM text_, iM which_, none]) (rest := (fun (_ : Unit) => Res.stuck)) L trivial T.cls (x := "CurveError") (by decide) ?_ ?_ ?_
    · intro qW_ qKP_ Lt qhg_
      have ht_ := ((et_test (ev_op opx_eqI mild_ok (ev_var (i := 1) (x := which_) rfl) (ev_int (i := 0)))) : EvT K qW_ [iM text_, iM which_, none] _ _)
      refine blk_seq (blk_if2 Lt (.same (.same (.same .nil))) (by exact ht_) ?_ ?_)
      · have hr_ := ((ev_as (ev_call (f := (fun (p : Str × Unit) => m_from_digits p.1)) (ea_cons (ev_var (i := 0) (x := text_) rfl) ea_nil)) toD (fun _ => rfl) rfl) : EvX K qW_ [iM text_, iM which_, none] _ _)
        exact blk_retAs Lt (.same (.same (.same .nil))) (by exact hr_) (fun _ => rfl)
      · refine blk_nil ?_
        try refine Blk.nx ?_
        have hr_ := ((ev_as (ev_call (f := (fun (p : Str × Unit) => m_ascii_codes p.1)) (ea_cons (ev_var (i := 0) (x := text_) rfl) ea_nil)) toD (fun _ => rfl) rfl) : EvX K qW_ [iM text_, iM which_, none] _ _)
        exact blk_retAs Lt (.same (.same (.same .nil))) (by exact hr_) (fun _ => rfl)
    · intro qc_ qa_ qnx_ qbk_ qct_ qhc_ qhsub_ qhn_
      show Blk _ _ _ _ _ [iM text_, iM which_, some (.raw (.ref qa_))] _
      have ht_ := ((et_and (et_B (ev_isE T.cls qhc_ (x := "Malformed") (i := 2) (a := qa_) (by decide) rfl)) (et_not (et_B (ev_isE T.cls qhc_ (x := "OutOfRange") (i := 2) (a := qa_) (by decide) rfl)))) : EvT K (W0 E) [iM text_, iM which_, some (.raw (.ref qa_))] _ _)
      refine blk_if2 L trivial (by exact ht_) ?_ ?_
      · have hr_ := ((ev_as (ev_tup (f := (fun (y : Str × Str × Unit) => T2.mk y.1 y.2.1)) (ea_cons (ev_str (x := "refused")) (ea_cons (ev_str (x := "malformed")) ea_nil)) (fun _ => rfl) (fun _ => by show 2 ≤ 100000; decide)) toD (fun _ => rfl) rfl) : EvX K (W0 E) [iM text_, iM which_, some (.raw (.ref qa_))] _ _)
        exact blk_ret L trivial (by exact hr_)
      · refine blk_nil ?_
        try refine Blk.nx ?_
        refine qhn_ _ _ ?_
        show Blk _ _ _ _ _ [iM text_, iM which_, none] _
        exact hr_.weak (.same (.same (.same .nil)))
    · intro _ _ _ _ _ h_
      exact (L.no h_).elim
noncomputable def m_u_law_due_l2 (text_ : Str) (k2 : (List Int) → Res D) : List Int → (List Int) → Res D
  | [], s => k2 s
  | x45 :: r2, data_ =>   (fun (k_ : Int) => (((sidx text_ ((2 : Int) * k_)).bind fun (t46 : Str) => (m_u_law_digits ).bind fun (t47 : Str) => Res.need ((t46).length = 1) (Res.ok (!decide (sg t46 ∈ (Str.cps t47).toList)))).bind fun b50 => cond b50 (Res.ok true) ((sidx text_ (((2 : Int) * k_) + (1 : Int))).bind fun (t48 : Str) => (m_u_law_digits ).bind fun (t49 : Str) => Res.need ((t48).length = 1) (Res.ok (!decide (sg t48 ∈ (Str.cps t49).toList))))).bind fun b => cond b   ((Res.ok (toD (T2.mk ("refused" : Str) ("malformed" : Str)))))   (((((m_u_law_digits ).bind fun (t52 : Str) => (sidx text_ ((2 : Int) * k_)).bind fun (t53 : Str) => match tfind t52 t53 with | some j51 => Res.ok ((j51 : Nat) : Int) | none => Res.stuck).bind fun (t54 : Int) => Res.ok ((16 : Int) * t54)).bind fun (t58 : Int) => ((m_u_law_digits ).bind fun (t56 : Str) => (sidx text_ (((2 : Int) * k_) + (1 : Int))).bind fun (t57 : Str) => match tfind t56 t57 with | some j55 => Res.ok ((j55 : Nat) : Int) | none => Res.stuck).bind fun (t59 : Int) => Res.ok (t58 + t59)).bind fun (y60 : Int) => Res.need (data_.length < 16777216) ((fun (data_ : (List Int)) =>   m_u_law_due_l2 text_ k2 r2 data_) (data_ ++ [y60])))) x45
noncomputable def m_u_law_due_k4 : (List Int) → Res D := fun data_ =>   (Res.ok (toD data_))
noncomputable def m_u_law_due (text_ : Str) : Res D :=
  (((Res.need ((text_).length ≤ 16777216) (Res.ok ((text_).length : Int))).bind fun (t41 : Int) => Res.ok (t41 % (2 : Int))).bind fun (t42 : Int) => Res.ok (decide (t42 = (1 : Int)))).bind fun b => cond b   ((Res.ok (toD (T2.mk ("refused" : Str) ("malformed" : Str)))))   (((Res.ok ([] : List Int))).bind fun (data_ : (List Int)) =>   (((Res.need ((text_).length ≤ 16777216) (Res.ok ((text_).length : Int))).bind fun (t43 : Int) => Res.ok (t43 / (2 : Int))).bind fun (t44 : Int) => Res.need (okRange t44) (Res.ok (pyRange 0 t44))).bind fun (xs62 : List Int) => m_u_law_due_l2 text_ (m_u_law_due_k4) xs62 data_)
theorem ok_u_law_due {P : Program} {w : World} {K : PySem.W.Frag} {mg : Str → Option Value} {base : Heap} (T : Facts P w K mg) {fd : FuncData} (F : FnP K "_law_due" "_law_due" s_u_law_due (He.ga K "_law_due") fd) :
    FnOk P w K mg base (L2.CX P w) 2 (He.ga K "_law_due") fd ["text"] (spM K (fun (p : Str × Unit) => m_u_law_due p.1)) := by
  obtain ⟨fd_u_law_digits, F_u_law_digits⟩ := T.d_u_law_digits
  have G_u_law_digits := ok_u_law_digits (P := P) (w := w) (base := base) T F_u_law_digits
  have b_u_law_digits : Binds K fd_u_law_digits [] [] := F_u_law_digits.bindsN fun _ _ _ _ _ _ us hl => match us, hl with | [], _ => rfl
  refine fn_ok F sc_u_law_due (fun y => rfl) (fun cdv A outer s H E hr => ?_)
  refine ⟨_, (pss_cons (ps_if (pt_cmpR op_eq (pe_op op_mod (pe_callB cr_lenT (by rfl) T.n_len (by decide +kernel) (pa_cons (pv 0) pa_nil)) pe_int) pe_int (nomark _)) (pss_one (ps_ret (pe_tup (pa_cons pe_str (pa_cons pe_str pa_nil))))) pss_nil) (pss_cons (ps_set (i := 1) sc_u_law_due.nd rfl (Or.inl rfl) (pe_lst pa_nil)) (pss_cons (ps_for (passes_of rfl) rfl (pi_range1 rfl T.n_range (pa_cons (pe_op op_fdiv (pe_callB cr_lenT (by rfl) T.n_len (by decide +kernel) (pa_cons (pv 0) pa_nil)) pe_int) pa_nil)) (pg_name (i := 2) sc_u_law_due.nd rfl (Or.inl rfl)) (pss_cons (ps_if (PW.pt (pw_or (pt_cmpR op_notIn_sign (pe_ix ix_str (pv 0) (pe_op op_mul pe_int (pv 2)) (fun _ _ => rfl)) (pe_callS0 G_u_law_digits (hr.mono (by decide)) rfl T.g_u_law_digits F_u_law_digits.kp b_u_law_digits (fun σ => passAt (takes_of rfl rfl rfl rfl) σ)) rfl) (pw_or1 (pt_cmpR op_notIn_sign (pe_ix ix_str (pv 0) (pe_op op_add (pe_op op_mul pe_int (pv 2)) pe_int) (fun _ _ => rfl)) (pe_callS0 G_u_law_digits (hr.mono (by decide)) rfl T.g_u_law_digits F_u_law_digits.kp b_u_law_digits (fun σ => passAt (takes_of rfl rfl rfl rfl) σ)) rfl)))) (pss_one (ps_ret (pe_tup (pa_cons pe_str (pa_cons pe_str pa_nil))))) pss_nil) (pss_one (ps_expr (pe_bm PySem.F.plainAttrs_list PySem.F.slot_list_append PySem.F.type_list_append mt_append (pv 1) (pa_cons (pe_op op_add (pe_op op_mul pe_int (pe_m1 PySem.F.slot_str_index PySem.F.type_str_index mt_sindex (pe_callS0 G_u_law_digits (hr.mono (by decide)) rfl T.g_u_law_digits F_u_law_digits.kp b_u_law_digits (fun σ => passAt (takes_of rfl rfl rfl rfl) σ)) (pe_ix ix_str (pv 0) (pe_op op_mul pe_int (pv 2)) (fun _ _ => rfl)))) (pe_m1 PySem.F.slot_str_index PySem.F.type_str_index mt_sindex (pe_callS0 G_u_law_digits (hr.mono (by decide)) rfl T.g_u_law_digits F_u_law_digits.kp b_u_law_digits (fun σ => passAt (takes_of rfl rfl rfl rfl) σ)) (pe_ix ix_str (pv 0) (pe_op op_add (pe_op op_mul pe_int (pv 2)) pe_int) (fun _ _ => rfl)))) pa_nil)))))) (pss_one (ps_ret (pv 1)))))), ?_⟩
  rintro ⟨text_, ⟨⟩⟩ F0 H0 Q KP L
  show Blk K F0 H0 KP _ [iM text_, none, none] (m_u_law_due text_)
  unfold m_u_law_due
  have ht_ := ((et_test (ev_op opx_eqI mild_ok (ev_opI (C := (fun _ j => 0 < j)) (g := fun i j => i % j) (fun x y _ h => by cases h; (show (0 : Int) < _; decide)) (ev_cb cx_lenS (fun _ _ h => need_mild h) (ea_cons (ev_var (i := 0) (x := text_) rfl) ea_nil)) (ev_int (i := 2))) (ev_int (i := 1)))) : EvT K (W0 E) [iM text_, none, none] _ _)
  refine blk_seq (blk_if2 L trivial (by exact ht_) ?_ ?_)
  · have hr_ := ((ev_as (ev_tup (f := (fun (y : Str × Str × Unit) => T2.mk y.1 y.2.1)) (ea_cons (ev_str (x := "refused")) (ea_cons (ev_str (x := "malformed")) ea_nil)) (fun _ => rfl) (fun _ => by show 2 ≤ 100000; decide)) toD (fun _ => rfl) rfl) : EvX K (W0 E) [iM text_, none, none] _ _)
    exact blk_ret L trivial (by exact hr_)
  · refine blk_nil ?_
    try refine Blk.nx ?_
    have hs_ := ((en_lst (f := (fun y => ([] : List Int))) ea_nil (fun _ => rfl) (fun _ => by show 0 ≤ 100000; decide)) : EvN K (W0 E) [iM text_, none, none] _ _)
    refine blk_seq (blk_own (i := 1) L trivial (by exact hs_) fun data_ => ?_)
    show Blk _ _ _ _ _ [iM text_, oW data_, none] _
    try refine Blk.nx ?_
    have hi_ := ((ei_range1 (ev_opI (C := CDiv) (g := fun i j => i / j) (fun x y _ h => by cases h; exact ⟨by decide, by decide⟩) (ev_cb cx_lenS (fun _ _ h => need_mild h) (ea_cons (ev_var (i := 0) (x := text_) rfl) ea_nil)) (ev_int (i := 2)))) : EvI K (W0 E) [iM text_, oW data_, none] _ _)
    refine blk_seq (blk_for (S := (List Int)) (m_u_law_due_l2 text_ (m_u_law_due_k4)) (m_u_law_due_k4) (fun data_ => [iM text_, oW data_, none]) data_ L trivial (by exact hi_) (fun _ => gx_name) (.same (.same (.same .nil))) (fun _ => rfl) ?_ ?_)
    · intro F2 L2 hB2 x45 r2 s_ N_ hN2
      revert s_; intro data_
      show Blk _ _ _ _ _ [iM text_, oW data_, iM x45] (m_u_law_due_l2 text_ (m_u_law_due_k4) (x45 :: r2) data_)
      rw [m_u_law_due_l2]
      show Blk _ _ _ _ _ _ ((fun (k_ : Int) => _) x45)
      generalize x45 = k_
      show Blk _ _ _ _ _ [iM text_, oW data_, iM k_] _
      have ht_ := ((et_or (et_test (ev_op opx_ninSg mild_need (ev_op opx_ixS sidx_mild (ev_var (i := 0) (x := text_) rfl) (ev_opI (C := CMul) (g := fun i j => i * j) (fun x y h _ => by cases h; exact .inl (by decide)) (ev_int (i := 2)) (ev_var (i := 2) (x := k_) rfl))) (ev_call (f := (fun (p : Unit) => m_u_law_digits )) ea_nil))) (et_test (ev_op opx_ninSg mild_need (ev_op opx_ixS sidx_mild (ev_var (i := 0) (x := text_) rfl) (ev_op (opx_I0 (g := fun i j => i + j)) mild_ok (ev_opI (C := CMul) (g := fun i j => i * j) (fun x y h _ => by cases h; exact .inl (by decide)) (ev_int (i := 2)) (ev_var (i := 2) (x := k_) rfl)) (ev_int (i := 1)))) (ev_call (f := (fun (p : Unit) => m_u_law_digits )) ea_nil)))) : EvT K (W0 E) [iM text_, oW data_, iM k_] _ _)
      refine blk_seq (blk_if2 L2 trivial (by exact ht_) ?_ ?_)
      · refine blk_freeze 1 rfl ?_
        show Blk _ _ _ _ _ [iM text_, iM data_, iM k_] _
        have hr_ := ((ev_as (ev_tup (f := (fun (y : Str × Str × Unit) => T2.mk y.1 y.2.1)) (ea_cons (ev_str (x := "refused")) (ea_cons (ev_str (x := "malformed")) ea_nil)) (fun _ => rfl) (fun _ => by show 2 ≤ 100000; decide)) toD (fun _ => rfl) rfl) : EvX K (W0 E) [iM text_, iM data_, iM k_] _ _)
        exact blk_ret L2 trivial (by exact hr_)
      · refine blk_nil ?_
        try refine Blk.nx ?_
        have hs_ := ((ev_op (opx_I0 (g := fun i j => i + j)) mild_ok (ev_opI (C := CMul) (g := fun i j => i * j) (fun x y h _ => by cases h; exact .inl (by decide)) (ev_int (i := 16)) (ev_tindex (ev_call (f := (fun (p : Unit) => m_u_law_digits )) ea_nil) (ev_op opx_ixS sidx_mild (ev_var (i := 0) (x := text_) rfl) (ev_opI (C := CMul) (g := fun i j => i * j) (fun x y h _ => by cases h; exact .inl (by decide)) (ev_int (i := 2)) (ev_var (i := 2) (x := k_) rfl))))) (ev_tindex (ev_call (f := (fun (p : Unit) => m_u_law_digits )) ea_nil) (ev_op opx_ixS sidx_mild (ev_var (i := 0) (x := text_) rfl) (ev_op (opx_I0 (g := fun i j => i + j)) mild_ok (ev_opI (C := CMul) (g := fun i j => i * j) (fun x y h _ => by cases h; exact .inl (by decide)) (ev_int (i := 2)) (ev_var (i := 2) (x := k_) rfl)) (ev_int (i := 1)))))) : EvX K (W0 E) [iM text_, oW data_, iM k_] _ _)
        refine blk_app (i := 1) (xs := data_) L2 trivial rfl (by exact hs_) fun y61 => ?_
        show Blk _ _ _ _ _ [iM text_, oW ((data_ ++ [y61])), iM k_] ((fun (data_ : (List Int)) => _) (data_ ++ [y61]))
        generalize data_ ++ [y61] = data_
        show Blk _ _ _ _ _ [iM text_, oW data_, iM k_] _
        try refine Blk.nx ?_
        exact (hN2 data_).weak (.same (.same (.drop .nil)))
    · intro data_
      show Blk _ _ _ _ _ [iM text_, oW data_, none] ((m_u_law_due_k4) data_)
      unfold m_u_law_due_k4
      try refine Blk.nx ?_
      refine blk_freeze 1 rfl ?_
      show Blk _ _ _ _ _ [iM text_, iM data_, none] _
      have hr_ := ((ev_as (ev_var (i := 1) (x := data_) rfl) toD (fun _ => rfl) rfl) : EvX K (W0 E) [iM text_, iM data_, none] _ _)
      exact blk_ret L trivial (by exact hr_)
noncomputable def m_u_law_right_kinds (cell_ : Int) (data_ : (List Int)) : Res Bool :=
  ((Res.ok ([(toD ()), (toD ("ab" : Str)), (toD (7 : Int)), (toD (T2.mk (1 : Int) (2 : Int))), (toD ([true] : List Bool)), (toD ([(256 : Int)] : List Int)), (toD ([(-(1 : Int))] : List Int)), (toD ([([(1 : Int)] : List Int)] : List (List Int))), (toD (Dc.mk ((["a"] : List Str).zip ([(1 : Int)] : List Int)))), (toD ([(toD (3 : Int)), (toD ("x" : Str))] : List D))] : List D))).bind fun (values_ : (List D)) =>   ((((idx values_ ((Int.natAbs cell_ : Int) % (10 : Int))).bind fun a63 => Res.ok (a63, ())).bind fun p65 => m_is_bytes p65.1).bind fun (t66 : Bool) => Res.ok (!decide (t66 = false))).bind fun b => cond b   ((Res.ok false))   (((m_is_bytes (toD data_)).bind fun (t67 : Bool) => Res.ok (decide (t67 = true))).bind fun b77 => cond b77 ((((((Res.need (data_.length + ([(256 : Int)] : List Int).length ≤ 16777216) (Res.ok (data_ ++ ([(256 : Int)] : List Int)))).bind fun (x : (List Int)) => Res.ok (toD x)).bind fun a68 => Res.ok (a68, ())).bind fun p70 => m_is_bytes p70.1).bind fun (t71 : Bool) => Res.ok (decide (t71 = false))).bind fun b76 => cond b76 (((((Res.need (([(-(1 : Int))] : List Int).length + data_.length ≤ 16777216) (Res.ok (([(-(1 : Int))] : List Int) ++ data_))).bind fun (x : (List Int)) => Res.ok (toD x)).bind fun a72 => Res.ok (a72, ())).bind fun p74 => m_is_bytes p74.1).bind fun (t75 : Bool) => Res.ok (decide (t75 = false))) (Res.ok false)) (Res.ok false))
theorem ok_u_law_right_kinds {P : Program} {w : World} {K : PySem.W.Frag} {mg : Str → Option Value} {base : Heap} (T : Facts P w K mg) {fd : FuncData} (F : FnP K "_law_right_kinds" "_law_right_kinds" s_u_law_right_kinds (He.ga K "_law_right_kinds") fd) :
    FnOk P w K mg base (L2.CX P w) 3 (He.ga K "_law_right_kinds") fd ["cell", "data"] (spM K (fun (p : Int × (List Int) × Unit) => m_u_law_right_kinds p.1 p.2.1)) := by
  obtain ⟨fd_is_bytes, F_is_bytes⟩ := T.d_is_bytes
  have G_is_bytes := ok_is_bytes (P := P) (w := w) (base := base) T F_is_bytes
  have b_is_bytes : Binds K fd_is_bytes ["value"] [] := F_is_bytes.bindsN fun _ _ _ _ _ _ us hl => match us, hl with | [_], _ => rfl
  refine fn_ok F sc_u_law_right_kinds (fun y => rfl) (fun cdv A outer s H E hr => ?_)
  refine ⟨_, (pss_cons (ps_set (i := 2) sc_u_law_right_kinds.nd rfl (Or.inl rfl) (pe_lst (pa_cons pe_non (pa_cons pe_str (pa_cons pe_int (pa_cons (pe_tup (pa_cons pe_int (pa_cons pe_int pa_nil))) (pa_cons (pe_lst (pa_cons pe_bl pa_nil)) (pa_cons (pe_lst (pa_cons pe_int pa_nil)) (pa_cons (pe_lst (pa_cons (pe_un un_neg pe_int) pa_nil)) (pa_cons (pe_lst (pa_cons (pe_lst (pa_cons pe_int pa_nil)) pa_nil)) (pa_cons (pe_disp (pps_cons pe_str pe_int pps_nil) rfl rfl (List.cons_ne_nil _ _) (by decide)) (pa_cons (pe_lst (pa_cons pe_int (pa_cons pe_str pa_nil))) pa_nil)))))))))))) (pss_cons (ps_if (pt_cmpR op_notBl (pe_callS G_is_bytes (hr.mono (by decide)) rfl T.g_is_bytes F_is_bytes.kp b_is_bytes (fun σ => passAt (takes_of rfl rfl rfl rfl) σ) (pa_cons (pe_ix (cr_ixL rfl) (pv 2) (pe_op op_mod (pe_callB call_abs (by rfl) T.n_abs (by decide +kernel) (pa_cons (pv 0) pa_nil)) pe_int) (fun _ _ => rfl)) pa_nil)) pe_bl (nomark _)) (pss_one (ps_ret pe_bl)) pss_nil) (pss_one (ps_ret (pe_and (pe_cmpR op_isBl (pe_callS G_is_bytes (hr.mono (by decide)) rfl T.g_is_bytes F_is_bytes.kp b_is_bytes (fun σ => passAt (takes_of rfl rfl rfl rfl) σ) (pa_cons (pe_callTy (T := "list") (cr_listof rfl) (by rfl) T.n_list (by decide +kernel) (pa_cons (pv 1) pa_nil)) pa_nil)) pe_bl (nomark _)) (pe_and (pe_cmpR op_isBl (pe_callS G_is_bytes (hr.mono (by decide)) rfl T.g_is_bytes F_is_bytes.kp b_is_bytes (fun σ => passAt (takes_of rfl rfl rfl rfl) σ) (pa_cons (pe_op op_cat (pv 1) (pe_lst (pa_cons pe_int pa_nil))) pa_nil)) pe_bl (nomark _)) (pe_one (pe_cmpR op_isBl (pe_callS G_is_bytes (hr.mono (by decide)) rfl T.g_is_bytes F_is_bytes.kp b_is_bytes (fun σ => passAt (takes_of rfl rfl rfl rfl) σ) (pa_cons (pe_op op_cat (pe_lst (pa_cons (pe_un un_neg pe_int) pa_nil)) (pv 1)) pa_nil)) pe_bl (nomark _))))))))), ?_⟩
  rintro ⟨cell_, data_, ⟨⟩⟩ F0 H0 Q KP L
  show Blk K F0 H0 KP _ [iM cell_, iM data_, none] (m_u_law_right_kinds cell_ data_)
  unfold m_u_law_right_kinds
  have hs_ := ((ev_ofN (en_lst (f := (fun y => ([y.1, y.2.1, y.2.2.1, y.2.2.2.1, y.2.2.2.2.1, y.2.2.2.2.2.1, y.2.2.2.2.2.2.1, y.2.2.2.2.2.2.2.1, y.2.2.2.2.2.2.2.2.1, y.2.2.2.2.2.2.2.2.2.1] : List D))) (ea_cons (ev_as ev_non toD (fun _ => rfl) rfl) (ea_cons (ev_as (ev_str (x := "ab")) toD (fun _ => rfl) rfl) (ea_cons (ev_as (ev_int (i := 7)) toD (fun _ => rfl) rfl) (ea_cons (ev_as (ev_tup (f := (fun (y : Int × Int × Unit) => T2.mk y.1 y.2.1)) (ea_cons (ev_int (i := 1)) (ea_cons (ev_int (i := 2)) ea_nil)) (fun _ => rfl) (fun _ => by show 2 ≤ 100000; decide)) toD (fun _ => rfl) rfl) (ea_cons (ev_as (ev_ofN (en_lst (f := (fun y => ([y.1] : List Bool))) (ea_cons (ev_bl (b := true)) ea_nil) (fun _ => rfl) (fun _ => by show 1 ≤ 100000; decide))) toD (fun _ => rfl) rfl) (ea_cons (ev_as (ev_ofN (en_lst (f := (fun y => ([y.1] : List Int))) (ea_cons (ev_int (i := 256)) ea_nil) (fun _ => rfl) (fun _ => by show 1 ≤ 100000; decide))) toD (fun _ => rfl) rfl) (ea_cons (ev_as (ev_ofN (en_lst (f := (fun y => ([y.1] : List Int))) (ea_cons (ev_un (g := fun i => -i) (ev_int (i := 1))) ea_nil) (fun _ => rfl) (fun _ => by show 1 ≤ 100000; decide))) toD (fun _ => rfl) rfl) (ea_cons (ev_as (ev_ofN (en_lst (f := (fun y => ([y.1] : List (List Int)))) (ea_cons (ev_ofN (en_lst (f := (fun y => ([y.1] : List Int))) (ea_cons (ev_int (i := 1)) ea_nil) (fun _ => rfl) (fun _ => by show 1 ≤ 100000; decide))) ea_nil) (fun _ => rfl) (fun _ => by show 1 ≤ 100000; decide))) toD (fun _ => rfl) rfl) (ea_cons (ev_as (ev_disp (ks := (["a"] : List Str)) (f := fun y => ([y.1] : List Int)) (ep_cons (k0 := "a") (ev_int (i := 1)) ep_nil) (fun _ => rfl) (by decide) (by decide) (fun _ => rfl)) toD (fun _ => rfl) rfl) (ea_cons (ev_as (ev_ofN (en_lst (f := (fun y => ([y.1, y.2.1] : List D))) (ea_cons (ev_as (ev_int (i := 3)) toD (fun _ => rfl) rfl) (ea_cons (ev_as (ev_str (x := "x")) toD (fun _ => rfl) rfl) ea_nil)) (fun _ => rfl) (fun _ => by show 2 ≤ 100000; decide))) toD (fun _ => rfl) rfl) ea_nil)))))))))) (fun _ => rfl) (fun _ => by show 10 ≤ 100000; decide))) : EvX K (W0 E) [iM cell_, iM data_, none] _ _)
  refine blk_seq (blk_set (i := 2) L trivial (by exact hs_) fun values_ => ?_)
  show Blk _ _ _ _ _ [iM cell_, iM data_, iM values_] _
  try refine Blk.nx ?_
  have ht_ := ((et_test (ev_op opx_notB mild_ok (ev_call (f := (fun (p : D × Unit) => m_is_bytes p.1)) (ea_cons (ev_op opx_ixL (fun x y => idx_mild x y) (ev_var (i := 2) (x := values_) rfl) (ev_opI (C := (fun _ j => 0 < j)) (g := fun i j => i % j) (fun x y _ h => by cases h; (show (0 : Int) < _; decide)) (ev_cb cx_abs (fun _ _ h => nomatch h) (ea_cons (ev_var (i := 0) (x := cell_) rfl) ea_nil)) (ev_int (i := 10)))) ea_nil)) (ev_bl (b := false)))) : EvT K (W0 E) [iM cell_, iM data_, iM values_] _ _)
  refine blk_seq (blk_if2 L trivial (by exact ht_) ?_ ?_)
  · have hr_ := ((ev_bl (b := false)) : EvX K (W0 E) [iM cell_, iM data_, iM values_] _ _)
    exact blk_ret L trivial (by exact hr_)
  · refine blk_nil ?_
    try refine Blk.nx ?_
    have hr_ := ((ev_andV (ev_op opx_isB mild_ok (ev_call (f := (fun (p : D × Unit) => m_is_bytes p.1)) (ea_cons (ev_as (ev_ofN (en_list (ev_var (i := 1) (x := data_) rfl))) toD (fun _ => rfl) rfl) ea_nil)) (ev_bl (b := true))) (ev_andV (ev_op opx_isB mild_ok (ev_call (f := (fun (p : D × Unit) => m_is_bytes p.1)) (ea_cons (ev_as (ev_ofN (en_cat (ev_var (i := 1) (x := data_) rfl) (ev_ofN (en_lst (f := (fun y => ([y.1] : List Int))) (ea_cons (ev_int (i := 256)) ea_nil) (fun _ => rfl) (fun _ => by show 1 ≤ 100000; decide))))) toD (fun _ => rfl) rfl) ea_nil)) (ev_bl (b := false))) (ev_op opx_isB mild_ok (ev_call (f := (fun (p : D × Unit) => m_is_bytes p.1)) (ea_cons (ev_as (ev_ofN (en_cat (ev_ofN (en_lst (f := (fun y => ([y.1] : List Int))) (ea_cons (ev_un (g := fun i => -i) (ev_int (i := 1))) ea_nil) (fun _ => rfl) (fun _ => by show 1 ≤ 100000; decide))) (ev_var (i := 1) (x := data_) rfl))) toD (fun _ => rfl) rfl) ea_nil)) (ev_bl (b := false))))) : EvX K (W0 E) [iM cell_, iM data_, iM values_] _ _)
    exact blk_ret L trivial (by exact hr_)
noncomputable def m_law_k2 (script_ : (Ro Int)) (data_ : (List Int)) (text_ : Str) (other_ : (List Int)) : Str → Res Bool := fun signs_ =>   ((((Res.ok other_)).bind fun (xs120 : List Int) => Res.need (xs120.length ≤ 16777216) (compL (fun (x117 : Int) => Res.ok true) (fun (x117 : Int) => ((Res.need ((signs_).length ≤ 16777216) (Res.ok ((signs_).length : Int))).bind fun (t118 : Int) => Res.need (0 < t118) (Res.ok (x117 % t118))).bind fun (t119 : Int) => sidx signs_ t119) xs120)).bind fun (t121 : (List Str)) => Res.need ((t121.map (·.length)).sum + t121.length * ("" : Str).length ≤ 16777216) (Res.ok (Txt.join ("" : Str) t121))).bind fun (text_ : Str) =>   ((m_u_law_told text_ (0 : Int)).bind fun (t122 : D) => (m_u_law_due text_).bind fun (t123 : D) => Res.need ((toD t122).okq = true ∧ (toD t123).okq = true) (Res.ok (!pyEq (toD t122) (toD t123)))).bind fun b => cond b   ((Res.ok false))   (((((Res.ok other_)).bind fun (xs126 : List Int) => Res.need (xs126.length ≤ 16777216) (compL (fun (x124 : Int) => Res.ok true) (fun (x124 : Int) => ((m_u_law_chars ).noexc).bind fun (t125 : Str) => sidx t125 (x124 % (94 : Int))) xs126)).bind fun (t127 : (List Str)) => Res.need ((t127.map (·.length)).sum + t127.length * ("" : Str).length ≤ 16777216) (Res.ok (Txt.join ("" : Str) t127))).bind fun (text_ : Str) =>   (((Res.ok (chars text_))).bind fun (xs129 : List Str) => Res.need (xs129.length ≤ 16777216) (compL (fun (x128 : Str) => Res.ok true) (fun (x128 : Str) => Res.need ((x128).length = 1) (Res.ok (((x128).cps.getD 0 0 : Nat) : Int))) xs129)).bind fun (codes_ : (List Int)) =>   ((m_u_law_told text_ (1 : Int)).bind fun (t130 : D) => Res.need ((toD t130).okq = true ∧ (toD codes_).okq = true) (Res.ok (!pyEq (toD t130) (toD codes_)))).bind fun b => cond b   ((Res.ok false))   (((((m_u_law_cell script_ (5 : Int)).bind fun a131 => Res.ok (a131, ())).bind fun p133 => Res.ok (Int.natAbs p133.1 : Int)).bind fun (t135 : Int) => ((Res.need ((text_).length ≤ 16777216) (Res.ok ((text_).length : Int))).bind fun (t134 : Int) => Res.ok (t134 + (1 : Int))).bind fun (t136 : Int) => Res.need (0 < t136) (Res.ok (t135 % t136))).bind fun (at_ : Int) =>   ((((Res.ok none).bind fun (lo137 : Option Int) => (Res.ok (some at_)).bind fun (hi138 : Option Int) => Res.need (text_.length ≤ 16777216) (Res.ok (cutS text_ lo137 hi138))).bind fun (t146 : Str) => ((m_u_law_percent ).bind fun (t144 : Str) => (((((m_u_law_cell script_ (4 : Int)).bind fun a139 => Res.ok (a139, ())).bind fun p141 => Res.ok (Int.natAbs p141.1 : Int)).bind fun (t142 : Int) => Res.ok (t142 / (2 : Int))).bind fun (t143 : Int) => Res.ok (t143 % (2 : Int))).bind fun (t145 : Int) => sidx t144 t145).bind fun (t147 : Str) => Res.need (t146.length + t147.length ≤ 16777216) (Res.ok (t146 ++ t147))).bind fun (t150 : Str) => ((Res.ok (some at_)).bind fun (lo148 : Option Int) => (Res.ok none).bind fun (hi149 : Option Int) => Res.need (text_.length ≤ 16777216) (Res.ok (cutS text_ lo148 hi149))).bind fun (t151 : Str) => Res.need (t150.length + t151.length ≤ 16777216) (Res.ok (t150 ++ t151))).bind fun (bad_ : Str) =>   ((m_u_law_told bad_ (1 : Int)).bind fun (t152 : D) => Res.need ((toD t152).okq = true ∧ (toD (T2.mk ("refused" : Str) ("malformed" : Str))).okq = true) (Res.ok (!pyEq (toD t152) (toD (T2.mk ("refused" : Str) ("malformed" : Str)))))).bind fun b => cond b   ((Res.ok false))   (((m_u_law_cell script_ (6 : Int)).bind fun a153 => Res.ok (a153, (data_, ()))).bind fun p155 => m_u_law_right_kinds p155.1 p155.2.1)))
noncomputable def m_law (script_ : (Ro Int)) : Res Bool :=
  (((m_u_law_cell script_ (0 : Int)).bind fun a86 => ((((((m_u_law_cell script_ (1 : Int)).bind fun a78 => Res.ok (a78, ())).bind fun p80 => Res.ok (Int.natAbs p80.1 : Int)).bind fun (t81 : Int) => Res.ok (t81 % (41 : Int))).bind fun a82 => Res.ok (a82, ())).bind fun a85 => Res.ok ((1 : Int), a85)).bind fun a87 => Res.ok (a86, a87)).bind fun p88 => m_u_law_bytes p88.1 p88.2.1 p88.2.2.1).bind fun (data_ : (List Int)) =>   ((Res.ok data_)).bind fun (handed_ : (List Int)) =>   (m_to_digits handed_).bind fun (text_ : Str) =>   ((((Res.ok data_)).bind fun (xs94 : List Int) => Res.need (xs94.length ≤ 16777216) (compL (fun (x89 : Int) => Res.ok true) (fun (x89 : Int) => (((m_u_law_digits ).noexc).bind fun (t90 : Str) => sidx t90 (x89 / (16 : Int))).bind fun (t92 : Str) => (((m_u_law_digits ).noexc).bind fun (t91 : Str) => sidx t91 (x89 % (16 : Int))).bind fun (t93 : Str) => Res.need (t92.length + t93.length ≤ 16777216) (Res.ok (t92 ++ t93))) xs94)).bind fun (t95 : (List Str)) => Res.need ((t95.map (·.length)).sum + t95.length * ("" : Str).length ≤ 16777216) (Res.ok (Txt.join ("" : Str) t95))).bind fun (due_ : Str) =>   (((Res.need ((toD text_).plain = true) (Res.ok (isI "str" (toD text_)))).bind fun (t96 : Bool) => Res.ok (!t96)).bind fun b99 => cond b99 (Res.ok true) (cond (!(text_ == due_)) (Res.ok true) ((Res.need ((toD handed_).okq = true ∧ (toD data_).okq = true) (Res.ok (!pyEq (toD handed_) (toD data_)))).bind fun b98 => cond b98 (Res.ok true) ((m_from_digits text_).bind fun (t97 : (List Int)) => Res.need ((toD t97).okq = true ∧ (toD data_).okq = true) (Res.ok (!pyEq (toD t97) (toD data_))))))).bind fun b => cond b   ((Res.ok false))   ((((m_u_law_cell script_ (2 : Int)).bind fun a108 => ((((((m_u_law_cell script_ (3 : Int)).bind fun a100 => Res.ok (a100, ())).bind fun p102 => Res.ok (Int.natAbs p102.1 : Int)).bind fun (t103 : Int) => Res.ok (t103 % (31 : Int))).bind fun a104 => Res.ok (a104, ())).bind fun a107 => Res.ok ((2 : Int), a107)).bind fun a109 => Res.ok (a108, a109)).bind fun p110 => m_u_law_bytes p110.1 p110.2.1 p110.2.2.1).bind fun (other_ : (List Int)) =>   ((m_u_law_digits ).bind fun (t111 : Str) => Res.need (t111.length + ("ABCDEFG gx-" : Str).length ≤ 16777216) (Res.ok (t111 ++ ("ABCDEFG gx-" : Str)))).bind fun (signs_ : Str) =>   (((((m_u_law_cell script_ (4 : Int)).bind fun a112 => Res.ok (a112, ())).bind fun p114 => Res.ok (Int.natAbs p114.1 : Int)).bind fun (t115 : Int) => Res.ok (t115 % (2 : Int))).bind fun (t116 : Int) => Res.ok (decide (t116 = (1 : Int)))).bind fun b => cond b   ((m_u_law_digits ).bind fun (signs_ : Str) =>   (m_law_k2 script_ data_ text_ other_) signs_)   ((m_law_k2 script_ data_ text_ other_) signs_))
theorem ok_law {P : Program} {w : World} {K : PySem.W.Frag} {mg : Str → Option Value} {base : Heap} (T : Facts P w K mg) {fd : FuncData} (F : FnP K "law" "law" s_law (He.ga K "law") fd) :
    FnOk P w K mg base (L2.CX P w) 4 (He.ga K "law") fd ["script"] (spM K (fun (p : (Ro Int) × Unit) => m_law p.1)) := by
  obtain ⟨fd_u_law_bytes, F_u_law_bytes⟩ := T.d_u_law_bytes
  have G_u_law_bytes := ok_u_law_bytes (P := P) (w := w) (base := base) T F_u_law_bytes
  have b_u_law_bytes : Binds K fd_u_law_bytes ["cell", "salt", "count"] [] := F_u_law_bytes.bindsN fun _ _ _ _ _ _ us hl => match us, hl with | [_, _, _], _ => rfl
  obtain ⟨fd_u_law_cell, F_u_law_cell⟩ := T.d_u_law_cell
  have G_u_law_cell := ok_u_law_cell (P := P) (w := w) (base := base) T F_u_law_cell
  have b_u_law_cell : Binds K fd_u_law_cell ["script", "k"] [] := F_u_law_cell.bindsN fun _ _ _ _ _ _ us hl => match us, hl with | [_, _], _ => rfl
  obtain ⟨fd_u_law_chars, F_u_law_chars⟩ := T.d_u_law_chars
  have G_u_law_chars := ok_u_law_chars (P := P) (w := w) (base := base) T F_u_law_chars
  have b_u_law_chars : Binds K fd_u_law_chars [] [] := F_u_law_chars.bindsN fun _ _ _ _ _ _ us hl => match us, hl with | [], _ => rfl
  obtain ⟨fd_u_law_digits, F_u_law_digits⟩ := T.d_u_law_digits
  have G_u_law_digits := ok_u_law_digits (P := P) (w := w) (base := base) T F_u_law_digits
  have b_u_law_digits : Binds K fd_u_law_digits [] [] := F_u_law_digits.bindsN fun _ _ _ _ _ _ us hl => match us, hl with | [], _ => rfl
  obtain ⟨fd_u_law_due, F_u_law_due⟩ := T.d_u_law_due
  have G_u_law_due := ok_u_law_due (P := P) (w := w) (base := base) T F_u_law_due
  have b_u_law_due : Binds K fd_u_law_due ["text"] [] := F_u_law_due.bindsN fun _ _ _ _ _ _ us hl => match us, hl with | [_], _ => rfl
  obtain ⟨fd_u_law_percent, F_u_law_percent⟩ := T.d_u_law_percent
  have G_u_law_percent := ok_u_law_percent (P := P) (w := w) (base := base) T F_u_law_percent
  have b_u_law_percent : Binds K fd_u_law_percent [] [] := F_u_law_percent.bindsN fun _ _ _ _ _ _ us hl => match us, hl with | [], _ => rfl
  obtain ⟨fd_u_law_right_kinds, F_u_law_right_kinds⟩ := T.d_u_law_right_kinds
  have G_u_law_right_kinds := ok_u_law_right_kinds (P := P) (w := w) (base := base) T F_u_law_right_kinds
  have b_u_law_right_kinds : Binds K fd_u_law_right_kinds ["cell", "data"] [] := F_u_law_right_kinds.bindsN fun _ _ _ _ _ _ us hl => match us, hl with | [_, _], _ => rfl
  obtain ⟨fd_u_law_told, F_u_law_told⟩ := T.d_u_law_told
  have G_u_law_told := ok_u_law_told (P := P) (w := w) (base := base) T F_u_law_told
  have b_u_law_told : Binds K fd_u_law_told ["text", "which"] [] := F_u_law_told.bindsN fun _ _ _ _ _ _ us hl => match us, hl with | [_, _], _ => rfl
  obtain ⟨fd_from_digits, F_from_digits⟩ := T.d_from_digits
  have G_from_digits := ok_from_digits (P := P) (w := w) (base := base) T F_from_digits
  have b_from_digits : Binds K fd_from_digits ["text"] [] := F_from_digits.bindsN fun _ _ _ _ _ _ us hl => match us, hl with | [_], _ => rfl
  obtain ⟨fd_to_digits, F_to_digits⟩ := T.d_to_digits
  have G_to_digits := ok_to_digits (P := P) (w := w) (base := base) T F_to_digits
  have b_to_digits : Binds K fd_to_digits ["data"] [] := F_to_digits.bindsN fun _ _ _ _ _ _ us hl => match us, hl with | [_], _ => rfl
  refine fn_ok F sc_law (fun y => rfl) (fun cdv A outer s H E hr => ?_)
  refine ⟨_, (pss_cons (ps_set (i := 1) sc_law.nd rfl (Or.inl rfl) (pe_callS G_u_law_bytes (hr.mono (by decide)) rfl T.g_u_law_bytes F_u_law_bytes.kp b_u_law_bytes (fun σ => passAt (takes_of rfl rfl rfl rfl) σ) (pa_cons (pe_callS G_u_law_cell (hr.mono (by decide)) rfl T.g_u_law_cell F_u_law_cell.kp b_u_law_cell (fun σ => passAt (takes_of rfl rfl rfl rfl) σ) (pa_cons (pv 0) (pa_cons pe_int pa_nil))) (pa_cons pe_int (pa_cons (pe_op op_mod (pe_callB call_abs (by rfl) T.n_abs (by decide +kernel) (pa_cons (pe_callS G_u_law_cell (hr.mono (by decide)) rfl T.g_u_law_cell F_u_law_cell.kp b_u_law_cell (fun σ => passAt (takes_of rfl rfl rfl rfl) σ) (pa_cons (pv 0) (pa_cons pe_int pa_nil))) pa_nil)) pe_int) pa_nil))))) (pss_cons (ps_set (i := 2) sc_law.nd rfl (Or.inl rfl) (pe_callTy (T := "list") (cr_listof rfl) (by rfl) T.n_list (by decide +kernel) (pa_cons (pv 1) pa_nil))) (pss_cons (ps_set (i := 3) sc_law.nd rfl (Or.inl rfl) (pe_callS G_to_digits (hr.mono (by decide)) rfl T.g_to_digits F_to_digits.kp b_to_digits (fun σ => passAt (takes_of rfl rfl rfl rfl) σ) (pa_cons (pv 2) pa_nil))) (pss_cons (ps_set (i := 4) sc_law.nd rfl (Or.inl rfl) (pe_joinK rfl pe_str (pe_lc (own := [("byte", 11)]) rfl sc_law.nd (pi_list (pv 1)) (blkOk_by (own := [("byte", 11)]) (N := ["script", "data", "handed", "text", "due", "other", "signs", "codes", "at", "bad", "sign", "byte"]) (sc := defScope s_law) (by decide +kernel)) (fun _ _ _ _ _ => (pg_name (i := 11) sc_law.nd rfl (Or.inl rfl))) (fun _ _ _ _ _ => pts_nil) (fun _ _ _ _ _ => (pe_op op_add_str (pe_ix ix_str (pe_call0 G_u_law_digits (hr.mono (by decide)) rfl T.g_u_law_digits F_u_law_digits.kp b_u_law_digits .nil passL) (pe_op op_fdiv (pv 11) pe_int) (fun _ _ => rfl)) (pe_ix ix_str (pe_call0 G_u_law_digits (hr.mono (by decide)) rfl T.g_u_law_digits F_u_law_digits.kp b_u_law_digits .nil passL) (pe_op op_mod (pv 11) pe_int) (fun _ _ => rfl))))))) (pss_cons (ps_if (PW.pt (pw_or (pt_not (pt_val (pe_callB call_isi (by rfl) T.n_isinstance (by decide +kernel) (pa_cons (pv 3) (pa_cons (pe_bltn (v := .ty "str") (by rfl) T.n_str (by decide +kernel) rfl) pa_nil))))) (pw_or (pt_cmpR op_ne (pv 3) (pv 4) (nomark _)) (pw_or (pt_cmpR (op_neD (Room.units hr)) (pv 2) (pv 1) (nomark _)) (pw_or1 (pt_cmpR (op_neD (Room.units hr)) (pe_callS G_from_digits (hr.mono (by decide)) rfl T.g_from_digits F_from_digits.kp b_from_digits (fun σ => passAt (takes_of rfl rfl rfl rfl) σ) (pa_cons (pv 3) pa_nil)) (pv 1) (nomark _))))))) (pss_one (ps_ret pe_bl)) pss_nil) (pss_cons (ps_set (i := 5) sc_law.nd rfl (Or.inl rfl) (pe_callS G_u_law_bytes (hr.mono (by decide)) rfl T.g_u_law_bytes F_u_law_bytes.kp b_u_law_bytes (fun σ => passAt (takes_of rfl rfl rfl rfl) σ) (pa_cons (pe_callS G_u_law_cell (hr.mono (by decide)) rfl T.g_u_law_cell F_u_law_cell.kp b_u_law_cell (fun σ => passAt (takes_of rfl rfl rfl rfl) σ) (pa_cons (pv 0) (pa_cons pe_int pa_nil))) (pa_cons pe_int (pa_cons (pe_op op_mod (pe_callB call_abs (by rfl) T.n_abs (by decide +kernel) (pa_cons (pe_callS G_u_law_cell (hr.mono (by decide)) rfl T.g_u_law_cell F_u_law_cell.kp b_u_law_cell (fun σ => passAt (takes_of rfl rfl rfl rfl) σ) (pa_cons (pv 0) (pa_cons pe_int pa_nil))) pa_nil)) pe_int) pa_nil))))) (pss_cons (ps_set (i := 6) sc_law.nd rfl (Or.inr rfl) (pe_op op_add_str (pe_callS0 G_u_law_digits (hr.mono (by decide)) rfl T.g_u_law_digits F_u_law_digits.kp b_u_law_digits (fun σ => passAt (takes_of rfl rfl rfl rfl) σ)) pe_str)) (pss_cons (ps_if (pt_cmpR op_eq (pe_op op_mod (pe_callB call_abs (by rfl) T.n_abs (by decide +kernel) (pa_cons (pe_callS G_u_law_cell (hr.mono (by decide)) rfl T.g_u_law_cell F_u_law_cell.kp b_u_law_cell (fun σ => passAt (takes_of rfl rfl rfl rfl) σ) (pa_cons (pv 0) (pa_cons pe_int pa_nil))) pa_nil)) pe_int) pe_int (nomark _)) (pss_one (ps_set (i := 6) sc_law.nd rfl (Or.inr rfl) (pe_callS0 G_u_law_digits (hr.mono (by decide)) rfl T.g_u_law_digits F_u_law_digits.kp b_u_law_digits (fun σ => passAt (takes_of rfl rfl rfl rfl) σ)))) pss_nil) (pss_cons (ps_set (i := 3) sc_law.nd rfl (Or.inl rfl) (pe_joinK rfl pe_str (pe_lc (own := [("byte", 11)]) rfl sc_law.nd (pi_list (pv 5)) (blkOk_by (own := [("byte", 11)]) (N := ["script", "data", "handed", "text", "due", "other", "signs", "codes", "at", "bad", "sign", "byte"]) (sc := defScope s_law) (by decide +kernel)) (fun _ _ _ _ _ => (pg_name (i := 11) sc_law.nd rfl (Or.inl rfl))) (fun _ _ _ _ _ => pts_nil) (fun _ _ _ _ _ => (pe_ix ix_str (pv 6) (pe_op op_mod (pv 11) (pe_callB cr_lenT (by rfl) T.n_len (by decide +kernel) (pa_cons (pv 6) pa_nil))) (fun _ _ => rfl)))))) (pss_cons (ps_if (pt_cmpR (op_neD (Room.units hr)) (pe_callS G_u_law_told (hr.mono (by decide)) rfl T.g_u_law_told F_u_law_told.kp b_u_law_told (fun σ => passAt (takes_of rfl rfl rfl rfl) σ) (pa_cons (pv 3) (pa_cons pe_int pa_nil))) (pe_callS G_u_law_due (hr.mono (by decide)) rfl T.g_u_law_due F_u_law_due.kp b_u_law_due (fun σ => passAt (takes_of rfl rfl rfl rfl) σ) (pa_cons (pv 3) pa_nil)) (nomark _)) (pss_one (ps_ret pe_bl)) pss_nil) (pss_cons (ps_set (i := 3) sc_law.nd rfl (Or.inl rfl) (pe_joinK rfl pe_str (pe_lc (own := [("byte", 11)]) rfl sc_law.nd (pi_list (pv 5)) (blkOk_by (own := [("byte", 11)]) (N := ["script", "data", "handed", "text", "due", "other", "signs", "codes", "at", "bad", "sign", "byte"]) (sc := defScope s_law) (by decide +kernel)) (fun _ _ _ _ _ => (pg_name (i := 11) sc_law.nd rfl (Or.inl rfl))) (fun _ _ _ _ _ => pts_nil) (fun _ _ _ _ _ => (pe_ix ix_str (pe_call0 G_u_law_chars (hr.mono (by decide)) rfl T.g_u_law_chars F_u_law_chars.kp b_u_law_chars .nil passL) (pe_op op_mod (pv 11) pe_int) (fun _ _ => rfl)))))) (pss_cons (ps_setLc (i := 7) (own := [("sign", 10)]) rfl sc_law.nd rfl rfl (sw_true rfl rfl rfl (by decide +kernel)) (pi_str (pv 3)) (blkOk_by (own := [("sign", 10)]) (N := ["script", "data", "handed", "text", "due", "other", "signs", "codes", "at", "bad", "sign", "byte"]) (sc := defScope s_law) (by decide +kernel)) (fun _ _ _ _ _ => (pg_name (i := 10) sc_law.nd rfl (Or.inl rfl))) (fun _ _ _ _ _ => pts_nil) (fun _ _ _ _ _ => (pe_callB call_ord (by rfl) T.n_ord (by decide +kernel) (pa_cons (pv 10) pa_nil)))) (pss_cons (ps_if (pt_cmpR (op_neD (Room.units hr)) (pe_callS G_u_law_told (hr.mono (by decide)) rfl T.g_u_law_told F_u_law_told.kp b_u_law_told (fun σ => passAt (takes_of rfl rfl rfl rfl) σ) (pa_cons (pv 3) (pa_cons pe_int pa_nil))) (pv 7) (nomark _)) (pss_one (ps_ret pe_bl)) pss_nil) (pss_cons (ps_set (i := 8) sc_law.nd rfl (Or.inl rfl) (pe_op op_mod (pe_callB call_abs (by rfl) T.n_abs (by decide +kernel) (pa_cons (pe_callS G_u_law_cell (hr.mono (by decide)) rfl T.g_u_law_cell F_u_law_cell.kp b_u_law_cell (fun σ => passAt (takes_of rfl rfl rfl rfl) σ) (pa_cons (pv 0) (pa_cons pe_int pa_nil))) pa_nil)) (pe_op op_add (pe_callB cr_lenT (by rfl) T.n_len (by decide +kernel) (pa_cons (pv 3) pa_nil)) pe_int))) (pss_cons (ps_set (i := 9) sc_law.nd rfl (Or.inl rfl) (pe_op op_add_str (pe_op op_add_str (pe_slice sl_str (pv 3) po_none (po_some (pv 8))) (pe_ix ix_str (pe_callS0 G_u_law_percent (hr.mono (by decide)) rfl T.g_u_law_percent F_u_law_percent.kp b_u_law_percent (fun σ => passAt (takes_of rfl rfl rfl rfl) σ)) (pe_op op_mod (pe_op op_fdiv (pe_callB call_abs (by rfl) T.n_abs (by decide +kernel) (pa_cons (pe_callS G_u_law_cell (hr.mono (by decide)) rfl T.g_u_law_cell F_u_law_cell.kp b_u_law_cell (fun σ => passAt (takes_of rfl rfl rfl rfl) σ) (pa_cons (pv 0) (pa_cons pe_int pa_nil))) pa_nil)) pe_int) pe_int) (fun _ _ => rfl))) (pe_slice sl_str (pv 3) (po_some (pv 8)) po_none))) (pss_cons (ps_if (pt_cmpR (op_neD (Room.units hr)) (pe_callS G_u_law_told (hr.mono (by decide)) rfl T.g_u_law_told F_u_law_told.kp b_u_law_told (fun σ => passAt (takes_of rfl rfl rfl rfl) σ) (pa_cons (pv 9) (pa_cons pe_int pa_nil))) (pe_tup (pa_cons pe_str (pa_cons pe_str pa_nil))) (nomark _)) (pss_one (ps_ret pe_bl)) pss_nil) (pss_one (ps_ret (pe_callS G_u_law_right_kinds (hr.mono (by decide)) rfl T.g_u_law_right_kinds F_u_law_right_kinds.kp b_u_law_right_kinds (fun σ => passAt (takes_of rfl rfl rfl rfl) σ) (pa_cons (pe_callS G_u_law_cell (hr.mono (by decide)) rfl T.g_u_law_cell F_u_law_cell.kp b_u_law_cell (fun σ => passAt (takes_of rfl rfl rfl rfl) σ) (pa_cons (pv 0) (pa_cons pe_int pa_nil))) (pa_cons (pv 1) pa_nil))))))))))))))))))))), ?_⟩
  rintro ⟨script_, ⟨⟩⟩ F0 H0 Q KP L
  show Blk K F0 H0 KP _ [iM script_, none, none, none, none, none, none, none, none, none, none, none] (m_law script_)
  unfold m_law
  have hs_ := ((ev_call (f := (fun (p : Int × Int × Int × Unit) => m_u_law_bytes p.1 p.2.1 p.2.2.1)) (ea_cons (ev_call (f := (fun (p : (Ro Int) × Int × Unit) => m_u_law_cell p.1 p.2.1)) (ea_cons (ev_var (i := 0) (x := script_) rfl) (ea_cons (ev_int (i := 0)) ea_nil))) (ea_cons (ev_int (i := 1)) (ea_cons (ev_opI (C := (fun _ j => 0 < j)) (g := fun i j => i % j) (fun x y _ h => by cases h; (show (0 : Int) < _; decide)) (ev_cb cx_abs (fun _ _ h => nomatch h) (ea_cons (ev_call (f := (fun (p : (Ro Int) × Int × Unit) => m_u_law_cell p.1 p.2.1)) (ea_cons (ev_var (i := 0) (x := script_) rfl) (ea_cons (ev_int (i := 1)) ea_nil))) ea_nil)) (ev_int (i := 41))) ea_nil)))) : EvX K (W0 E) [iM script_, none, none, none, none, none, none, none, none, none, none, none] _ _)
  refine blk_seq (blk_set (i := 1) L trivial (by exact hs_) fun data_ => ?_)
  show Blk _ _ _ _ _ [iM script_, iM data_, none, none, none, none, none, none, none, none, none, none] _
  try refine Blk.nx ?_
  have hs_ := ((ev_ofN (en_list (ev_var (i := 1) (x := data_) rfl))) : EvX K (W0 E) [iM script_, iM data_, none, none, none, none, none, none, none, none, none, none] _ _)
  refine blk_seq (blk_set (i := 2) L trivial (by exact hs_) fun handed_ => ?_)
  show Blk _ _ _ _ _ [iM script_, iM data_, iM handed_, none, none, none, none, none, none, none, none, none] _
  try refine Blk.nx ?_
  have hs_ := ((ev_call (f := (fun (p : (List Int) × Unit) => m_to_digits p.1)) (ea_cons (ev_var (i := 2) (x := handed_) rfl) ea_nil)) : EvX K (W0 E) [iM script_, iM data_, iM handed_, none, none, none, none, none, none, none, none, none] _ _)
  refine blk_seq (blk_set (i := 3) L trivial (by exact hs_) fun text_ => ?_)
  show Blk _ _ _ _ _ [iM script_, iM data_, iM handed_, iM text_, none, none, none, none, none, none, none, none] _
  try refine Blk.nx ?_
  have hs_ := ((ev_join (ev_str (x := "")) (ev_ofN (ev_comp (tst := fun (x89 : Int) => Res.ok true) (el := fun (x89 : Int) => (((m_u_law_digits ).noexc).bind fun (t90 : Str) => sidx t90 (x89 / (16 : Int))).bind fun (t92 : Str) => (((m_u_law_digits ).noexc).bind fun (t91 : Str) => sidx t91 (x89 % (16 : Int))).bind fun (t93 : Str) => Res.need (t92.length + t93.length ≤ 16777216) (Res.ok (t92 ++ t93))) (ws := [11]) (ei_list (ev_var (i := 1) (x := data_) rfl)) (fun _ => gx_name) (fun x89 => et_yes) (fun x89 => ((ev_op opx_addT mild_need (ev_op opx_ixS sidx_mild (ev_call0 (f := (fun (p : Unit) => m_u_law_digits )) ea_nil) (ev_opI (C := CDiv) (g := fun i j => i / j) (fun x y _ h => by cases h; exact ⟨by decide, by decide⟩) (ev_var (i := 11) (x := x89) rfl) (ev_int (i := 16)))) (ev_op opx_ixS sidx_mild (ev_call0 (f := (fun (p : Unit) => m_u_law_digits )) ea_nil) (ev_opI (C := (fun _ j => 0 < j)) (g := fun i j => i % j) (fun x y _ h => by cases h; (show (0 : Int) < _; decide)) (ev_var (i := 11) (x := x89) rfl) (ev_int (i := 16))))) : EvX K WT [iM script_, iM data_, iM handed_, iM text_, none, none, none, none, none, none, none, iM x89] _ _))))) : EvX K (W0 E) [iM script_, iM data_, iM handed_, iM text_, none, none, none, none, none, none, none, none] _ _)
  refine blk_seq (blk_set (i := 4) L trivial (by exact hs_) fun due_ => ?_)
  show Blk _ _ _ _ _ [iM script_, iM data_, iM handed_, iM text_, iM due_, none, none, none, none, none, none, none] _
  try refine Blk.nx ?_
  have ht_ := ((et_or (et_not (et_B (ev_isi isi_str (ev_var (i := 3) (x := text_) rfl)))) (et_or (et_test (ev_op opx_neS mild_ok (ev_var (i := 3) (x := text_) rfl) (ev_var (i := 4) (x := due_) rfl))) (et_or (et_test (ev_op opx_neD mild_need (ev_var (i := 2) (x := handed_) rfl) (ev_var (i := 1) (x := data_) rfl))) (et_test (ev_op opx_neD mild_need (ev_call (f := (fun (p : Str × Unit) => m_from_digits p.1)) (ea_cons (ev_var (i := 3) (x := text_) rfl) ea_nil)) (ev_var (i := 1) (x := data_) rfl)))))) : EvT K (W0 E) [iM script_, iM data_, iM handed_, iM text_, iM due_, none, none, none, none, none, none, none] _ _)
  refine blk_seq (blk_if2 L trivial (by exact ht_) ?_ ?_)
  · have hr_ := ((ev_bl (b := false)) : EvX K (W0 E) [iM script_, iM data_, iM handed_, iM text_, iM due_, none, none, none, none, none, none, none] _ _)
    exact blk_ret L trivial (by exact hr_)
  · refine blk_nil ?_
    try refine Blk.nx ?_
    have hs_ := ((ev_call (f := (fun (p : Int × Int × Int × Unit) => m_u_law_bytes p.1 p.2.1 p.2.2.1)) (ea_cons (ev_call (f := (fun (p : (Ro Int) × Int × Unit) => m_u_law_cell p.1 p.2.1)) (ea_cons (ev_var (i := 0) (x := script_) rfl) (ea_cons (ev_int (i := 2)) ea_nil))) (ea_cons (ev_int (i := 2)) (ea_cons (ev_opI (C := (fun _ j => 0 < j)) (g := fun i j => i % j) (fun x y _ h => by cases h; (show (0 : Int) < _; decide)) (ev_cb cx_abs (fun _ _ h => nomatch h) (ea_cons (ev_call (f := (fun (p : (Ro Int) × Int × Unit) => m_u_law_cell p.1 p.2.1)) (ea_cons (ev_var (i := 0) (x := script_) rfl) (ea_cons (ev_int (i := 3)) ea_nil))) ea_nil)) (ev_int (i := 31))) ea_nil)))) : EvX K (W0 E) [iM script_, iM data_, iM handed_, iM text_, iM due_, none, none, none, none, none, none, none] _ _)
    refine blk_seq (blk_set (i := 5) L trivial (by exact hs_) fun other_ => ?_)
    show Blk _ _ _ _ _ [iM script_, iM data_, iM handed_, iM text_, iM due_, iM other_, none, none, none, none, none, none] _
    try refine Blk.nx ?_
    have hs_ := ((ev_op opx_addT mild_need (ev_call (f := (fun (p : Unit) => m_u_law_digits )) ea_nil) (ev_str (x := "ABCDEFG gx-"))) : EvX K (W0 E) [iM script_, iM data_, iM handed_, iM text_, iM due_, iM other_, none, none, none, none, none, none] _ _)
    refine blk_seq (blk_set (i := 6) L trivial (by exact hs_) fun signs_ => ?_)
    show Blk _ _ _ _ _ [iM script_, iM data_, iM handed_, iM text_, iM due_, iM other_, iM signs_, none, none, none, none, none] _
    try refine Blk.nx ?_
    have ht_ := ((et_test (ev_op opx_eqI mild_ok (ev_opI (C := (fun _ j => 0 < j)) (g := fun i j => i % j) (fun x y _ h => by cases h; (show (0 : Int) < _; decide)) (ev_cb cx_abs (fun _ _ h => nomatch h) (ea_cons (ev_call (f := (fun (p : (Ro Int) × Int × Unit) => m_u_law_cell p.1 p.2.1)) (ea_cons (ev_var (i := 0) (x := script_) rfl) (ea_cons (ev_int (i := 4)) ea_nil))) ea_nil)) (ev_int (i := 2))) (ev_int (i := 1)))) : EvT K (W0 E) [iM script_, iM data_, iM handed_, iM text_, iM due_, iM other_, iM signs_, none, none, none, none, none] _ _)
    refine blk_seq (blk_ifj (S := Str) (fun signs_ => [iM script_, iM data_, iM handed_, iM text_, iM due_, iM other_, iM signs_, none, none, none, none, none]) (m_law_k2 script_ data_ text_ other_) L trivial (by exact ht_) ?_ ?_ ?_)
    · intro signs_
      show Blk _ _ _ _ _ [iM script_, iM data_, iM handed_, iM text_, iM due_, iM other_, iM signs_, none, none, none, none, none] ((m_law_k2 script_ data_ text_ other_) signs_)
      unfold m_law_k2
      try refine Blk.nx ?_
      have hs_ := ((ev_join (ev_str (x := "")) (ev_ofN (ev_comp (tst := fun (x117 : Int) => Res.ok true) (el := fun (x117 : Int) => ((Res.need ((signs_).length ≤ 16777216) (Res.ok ((signs_).length : Int))).bind fun (t118 : Int) => Res.need (0 < t118) (Res.ok (x117 % t118))).bind fun (t119 : Int) => sidx signs_ t119) (ws := [11]) (ei_list (ev_var (i := 5) (x := other_) rfl)) (fun _ => gx_name) (fun x117 => et_yes) (fun x117 => ((ev_op opx_ixS sidx_mild (ev_var (i := 6) (x := signs_) rfl) (ev_op (opx_I (C := (fun _ j => 0 < j)) (g := fun i j => i % j)) mild_need (ev_var (i := 11) (x := x117) rfl) (ev_cb cx_lenS (fun _ _ h => need_mild h) (ea_cons (ev_var (i := 6) (x := signs_) rfl) ea_nil)))) : EvX K WT [iM script_, iM data_, iM handed_, iM text_, iM due_, iM other_, iM signs_, none, none, none, none, iM x117] _ _))))) : EvX K (W0 E) [iM script_, iM data_, iM handed_, iM text_, iM due_, iM other_, iM signs_, none, none, none, none, none] _ _)
      refine blk_seq (blk_set (i := 3) L trivial (by exact hs_) fun text_ => ?_)
      show Blk _ _ _ _ _ [iM script_, iM data_, iM handed_, iM text_, iM due_, iM other_, iM signs_, none, none, none, none, none] _
      try refine Blk.nx ?_
      have ht_ := ((et_test (ev_op opx_neD mild_need (ev_call (f := (fun (p : Str × Int × Unit) => m_u_law_told p.1 p.2.1)) (ea_cons (ev_var (i := 3) (x := text_) rfl) (ea_cons (ev_int (i := 0)) ea_nil))) (ev_call (f := (fun (p : Str × Unit) => m_u_law_due p.1)) (ea_cons (ev_var (i := 3) (x := text_) rfl) ea_nil)))) : EvT K (W0 E) [iM script_, iM data_, iM handed_, iM text_, iM due_, iM other_, iM signs_, none, none, none, none, none] _ _)
      refine blk_seq (blk_if2 L trivial (by exact ht_) ?_ ?_)
      · have hr_ := ((ev_bl (b := false)) : EvX K (W0 E) [iM script_, iM data_, iM handed_, iM text_, iM due_, iM other_, iM signs_, none, none, none, none, none] _ _)
        exact blk_ret L trivial (by exact hr_)
      · refine blk_nil ?_
        try refine Blk.nx ?_
        have hs_ := ((ev_join (ev_str (x := "")) (ev_ofN (ev_comp (tst := fun (x124 : Int) => Res.ok true) (el := fun (x124 : Int) => ((m_u_law_chars ).noexc).bind fun (t125 : Str) => sidx t125 (x124 % (94 : Int))) (ws := [11]) (ei_list (ev_var (i := 5) (x := other_) rfl)) (fun _ => gx_name) (fun x124 => et_yes) (fun x124 => ((ev_op opx_ixS sidx_mild (ev_call0 (f := (fun (p : Unit) => m_u_law_chars )) ea_nil) (ev_opI (C := (fun _ j => 0 < j)) (g := fun i j => i % j) (fun x y _ h => by cases h; (show (0 : Int) < _; decide)) (ev_var (i := 11) (x := x124) rfl) (ev_int (i := 94)))) : EvX K WT [iM script_, iM data_, iM handed_, iM text_, iM due_, iM other_, iM signs_, none, none, none, none, iM x124] _ _))))) : EvX K (W0 E) [iM script_, iM data_, iM handed_, iM text_, iM due_, iM other_, iM signs_, none, none, none, none, none] _ _)
        refine blk_seq (blk_set (i := 3) L trivial (by exact hs_) fun text_ => ?_)
        show Blk _ _ _ _ _ [iM script_, iM data_, iM handed_, iM text_, iM due_, iM other_, iM signs_, none, none, none, none, none] _
        try refine Blk.nx ?_
        have hs_ := ((ev_ofN (ev_comp (tst := fun (x128 : Str) => Res.ok true) (el := fun (x128 : Str) => Res.need ((x128).length = 1) (Res.ok (((x128).cps.getD 0 0 : Nat) : Int))) (ws := [10]) (ei_str (ev_var (i := 3) (x := text_) rfl)) (fun _ => gx_name) (fun x128 => et_yes) (fun x128 => ((ev_cb cx_ord (fun _ _ h => need_mild h) (ea_cons (ev_var (i := 10) (x := x128) rfl) ea_nil)) : EvX K WT [iM script_, iM data_, iM handed_, iM text_, iM due_, iM other_, iM signs_, none, none, none, iM x128, none] _ _)))) : EvX K (W0 E) [iM script_, iM data_, iM handed_, iM text_, iM due_, iM other_, iM signs_, none, none, none, none, none] _ _)
        refine blk_seq (blk_set (i := 7) L trivial (by exact hs_) fun codes_ => ?_)
        show Blk _ _ _ _ _ [iM script_, iM data_, iM handed_, iM text_, iM due_, iM other_, iM signs_, iM codes_, none, none, none, none] _
        try refine Blk.nx ?_
        have ht_ := ((et_test (ev_op opx_neD mild_need (ev_call (f := (fun (p : Str × Int × Unit) => m_u_law_told p.1 p.2.1)) (ea_cons (ev_var (i := 3) (x := text_) rfl) (ea_cons (ev_int (i := 1)) ea_nil))) (ev_var (i := 7) (x := codes_) rfl))) : EvT K (W0 E) [iM script_, iM data_, iM handed_, iM text_, iM due_, iM other_, iM signs_, iM codes_, none, none, none, none] _ _)
        refine blk_seq (blk_if2 L trivial (by exact ht_) ?_ ?_)
        · have hr_ := ((ev_bl (b := false)) : EvX K (W0 E) [iM script_, iM data_, iM handed_, iM text_, iM due_, iM other_, iM signs_, iM codes_, none, none, none, none] _ _)
          exact blk_ret L trivial (by exact hr_)
        · refine blk_nil ?_
          try refine Blk.nx ?_
          have hs_ := ((ev_op (opx_I (C := (fun _ j => 0 < j)) (g := fun i j => i % j)) mild_need (ev_cb cx_abs (fun _ _ h => nomatch h) (ea_cons (ev_call (f := (fun (p : (Ro Int) × Int × Unit) => m_u_law_cell p.1 p.2.1)) (ea_cons (ev_var (i := 0) (x := script_) rfl) (ea_cons (ev_int (i := 5)) ea_nil))) ea_nil)) (ev_op (opx_I0 (g := fun i j => i + j)) mild_ok (ev_cb cx_lenS (fun _ _ h => need_mild h) (ea_cons (ev_var (i := 3) (x := text_) rfl) ea_nil)) (ev_int (i := 1)))) : EvX K (W0 E) [iM script_, iM data_, iM handed_, iM text_, iM due_, iM other_, iM signs_, iM codes_, none, none, none, none] _ _)
          refine blk_seq (blk_set (i := 8) L trivial (by exact hs_) fun at_ => ?_)
          show Blk _ _ _ _ _ [iM script_, iM data_, iM handed_, iM text_, iM due_, iM other_, iM signs_, iM codes_, iM at_, none, none, none] _
          try refine Blk.nx ?_
          have hs_ := ((ev_op opx_addT mild_need (ev_op opx_addT mild_need (ev_sliceS (ev_var (i := 3) (x := text_) rfl) ept_none (ept_some (ev_var (i := 8) (x := at_) rfl))) (ev_op opx_ixS sidx_mild (ev_call (f := (fun (p : Unit) => m_u_law_percent )) ea_nil) (ev_opI (C := (fun _ j => 0 < j)) (g := fun i j => i % j) (fun x y _ h => by cases h; (show (0 : Int) < _; decide)) (ev_opI (C := CDiv) (g := fun i j => i / j) (fun x y _ h => by cases h; exact ⟨by decide, by decide⟩) (ev_cb cx_abs (fun _ _ h => nomatch h) (ea_cons (ev_call (f := (fun (p : (Ro Int) × Int × Unit) => m_u_law_cell p.1 p.2.1)) (ea_cons (ev_var (i := 0) (x := script_) rfl) (ea_cons (ev_int (i := 4)) ea_nil))) ea_nil)) (ev_int (i := 2))) (ev_int (i := 2))))) (ev_sliceS (ev_var (i := 3) (x := text_) rfl) (ept_some (ev_var (i := 8) (x := at_) rfl)) ept_none)) : EvX K (W0 E) [iM script_, iM data_, iM handed_, iM text_, iM due_, iM other_, iM signs_, iM codes_, iM at_, none, none, none] _ _)
          refine blk_seq (blk_set (i := 9) L trivial (by exact hs_) fun bad_ => ?_)
          show Blk _ _ _ _ _ [iM script_, iM data_, iM handed_, iM text_, iM due_, iM other_, iM signs_, iM codes_, iM at_, iM bad_, none, none] _
          try refine Blk.nx ?_
          have ht_ := ((et_test (ev_op opx_neD mild_need (ev_call (f := (fun (p : Str × Int × Unit) => m_u_law_told p.1 p.2.1)) (ea_cons (ev_var (i := 9) (x := bad_) rfl) (ea_cons (ev_int (i := 1)) ea_nil))) (ev_tup (f := (fun (y : Str × Str × Unit) => T2.mk y.1 y.2.1)) (ea_cons (ev_str (x := "refused")) (ea_cons (ev_str (x := "malformed")) ea_nil)) (fun _ => rfl) (fun _ => by show 2 ≤ 100000; decide)))) : EvT K (W0 E) [iM script_, iM data_, iM handed_, iM text_, iM due_, iM other_, iM signs_, iM codes_, iM at_, iM bad_, none, none] _ _)
          refine blk_seq (blk_if2 L trivial (by exact ht_) ?_ ?_)
          · have hr_ := ((ev_bl (b := false)) : EvX K (W0 E) [iM script_, iM data_, iM handed_, iM text_, iM due_, iM other_, iM signs_, iM codes_, iM at_, iM bad_, none, none] _ _)
            exact blk_ret L trivial (by exact hr_)
          · refine blk_nil ?_
            try refine Blk.nx ?_
            have hr_ := ((ev_call (f := (fun (p : Int × (List Int) × Unit) => m_u_law_right_kinds p.1 p.2.1)) (ea_cons (ev_call (f := (fun (p : (Ro Int) × Int × Unit) => m_u_law_cell p.1 p.2.1)) (ea_cons (ev_var (i := 0) (x := script_) rfl) (ea_cons (ev_int (i := 6)) ea_nil))) (ea_cons (ev_var (i := 1) (x := data_) rfl) ea_nil))) : EvX K (W0 E) [iM script_, iM data_, iM handed_, iM text_, iM due_, iM other_, iM signs_, iM codes_, iM at_, iM bad_, none, none] _ _)
            exact blk_ret L trivial (by exact hr_)
    · intro hk2
      have hs_ := ((ev_call (f := (fun (p : Unit) => m_u_law_digits )) ea_nil) : EvX K (W0 E) [iM script_, iM data_, iM handed_, iM text_, iM due_, iM other_, iM signs_, none, none, none, none, none] _ _)
      refine blk_set (i := 6) L trivial (by exact hs_) fun signs_ => ?_
      show Blk _ _ _ _ _ [iM script_, iM data_, iM handed_, iM text_, iM due_, iM other_, iM signs_, none, none, none, none, none] _
      try refine Blk.nx ?_
      exact (hk2 signs_).weak (.same (.same (.same (.same (.same (.same (.same (.same (.same (.same (.same (.same .nil))))))))))))
    · intro hk2
      refine blk_nil ?_
      try refine Blk.nx ?_
      exact (hk2 signs_).weak (.same (.same (.same (.same (.same (.same (.same (.same (.same (.same (.same (.same .nil))))))))))))
theorem facts_of {K : PySem.W.Frag} {h : Heap} {w : World} {mg : Str → Option Value} (X : K.In h) (G : h.Ns mainGlobals mg) (c : SaysY fas dfs tbs sus exB w K) : Facts Rw.prog w K mg := by
  have cd : He.SaysD fas dfs K := c.t.d
  exact {
    d_is_whole := cd.def_ 0 (d := ⟨("is_whole", none), "is_whole", "is_whole", defArgs s_is_whole, defBody s_is_whole, defScope s_is_whole, [], []⟩) rfl
    g_is_whole := He.glo_ok X G (cd.fact 0 rfl)
    d_to_digits := cd.def_ 1 (d := ⟨("to_digits", none), "to_digits", "to_digits", defArgs s_to_digits, defBody s_to_digits, defScope s_to_digits, [], []⟩) rfl
    g_to_digits := He.glo_ok X G (cd.fact 1 rfl)
    d_from_digits := cd.def_ 2 (d := ⟨("from_digits", none), "from_digits", "from_digits", defArgs s_from_digits, defBody s_from_digits, defScope s_from_digits, [], []⟩) rfl
    g_from_digits := He.glo_ok X G (cd.fact 2 rfl)
    d_u_digit := cd.def_ 3 (d := ⟨("_digit", none), "_digit", "_digit", defArgs s_u_digit, defBody s_u_digit, defScope s_u_digit, [], []⟩) rfl
    g_u_digit := He.glo_ok X G (cd.fact 3 rfl)
    d_is_bytes := cd.def_ 4 (d := ⟨("is_bytes", none), "is_bytes", "is_bytes", defArgs s_is_bytes, defBody s_is_bytes, defScope s_is_bytes, [], []⟩) rfl
    g_is_bytes := He.glo_ok X G (cd.fact 4 rfl)
    d_ascii_codes := cd.def_ 5 (d := ⟨("ascii_codes", none), "ascii_codes", "ascii_codes", defArgs s_ascii_codes, defBody s_ascii_codes, defScope s_ascii_codes, [], []⟩) rfl
    g_ascii_codes := He.glo_ok X G (cd.fact 5 rfl)
    d_u_law_cell := cd.def_ 6 (d := ⟨("_law_cell", none), "_law_cell", "_law_cell", defArgs s_u_law_cell, defBody s_u_law_cell, defScope s_u_law_cell, [], []⟩) rfl
    g_u_law_cell := He.glo_ok X G (cd.fact 6 rfl)
    d_u_law_bytes := cd.def_ 7 (d := ⟨("_law_bytes", none), "_law_bytes", "_law_bytes", defArgs s_u_law_bytes, defBody s_u_law_bytes, defScope s_u_law_bytes, [], []⟩) rfl
    g_u_law_bytes := He.glo_ok X G (cd.fact 7 rfl)
    d_u_law_digits := cd.def_ 8 (d := ⟨("_law_digits", none), "_law_digits", "_law_digits", defArgs s_u_law_digits, defBody s_u_law_digits, defScope s_u_law_digits, [], []⟩) rfl
    g_u_law_digits := He.glo_ok X G (cd.fact 8 rfl)
    d_u_law_percent := cd.def_ 9 (d := ⟨("_law_percent", none), "_law_percent", "_law_percent", defArgs s_u_law_percent, defBody s_u_law_percent, defScope s_u_law_percent, [], []⟩) rfl
    g_u_law_percent := He.glo_ok X G (cd.fact 9 rfl)
    d_u_law_chars := cd.def_ 10 (d := ⟨("_law_chars", none), "_law_chars", "_law_chars", defArgs s_u_law_chars, defBody s_u_law_chars, defScope s_u_law_chars, [], []⟩) rfl
    g_u_law_chars := He.glo_ok X G (cd.fact 10 rfl)
    d_u_law_told := cd.def_ 11 (d := ⟨("_law_told", none), "_law_told", "_law_told", defArgs s_u_law_told, defBody s_u_law_told, defScope s_u_law_told, [], []⟩) rfl
    g_u_law_told := He.glo_ok X G (cd.fact 11 rfl)
    d_u_law_due := cd.def_ 12 (d := ⟨("_law_due", none), "_law_due", "_law_due", defArgs s_u_law_due, defBody s_u_law_due, defScope s_u_law_due, [], []⟩) rfl
    g_u_law_due := He.glo_ok X G (cd.fact 12 rfl)
    d_u_law_right_kinds := cd.def_ 13 (d := ⟨("_law_right_kinds", none), "_law_right_kinds", "_law_right_kinds", defArgs s_u_law_right_kinds, defBody s_u_law_right_kinds, defScope s_u_law_right_kinds, [], []⟩) rfl
    g_u_law_right_kinds := He.glo_ok X G (cd.fact 13 rfl)
    d_law := cd.def_ 14 (d := ⟨("law", none), "law", "law", defArgs s_law, defBody s_law, defScope s_law, [], []⟩) rfl
    g_law := He.glo_ok X G (cd.fact 14 rfl)
    g_CurveError := He.glo_ok X G (cd.fact 15 rfl)
    g_OutOfRange := He.glo_ok X G (cd.fact 16 rfl)
    g_Malformed := He.glo_ok X G (cd.fact 17 rfl)
    x_Malformed := (He.exc_ok (x := "Malformed") (cd.fact 18 rfl)).1
    k_Malformed := (He.exc_ok (x := "Malformed") (cd.fact 18 rfl)).2.1
    b_Malformed := (He.exc_ok (x := "Malformed") (cd.fact 18 rfl)).2.2.1
    t_Malformed := (He.exc_ok (x := "Malformed") (cd.fact 18 rfl)).2.2.2
    n_abs := He.free_ok X G (cd.fact 19 rfl)
    n_all := He.free_ok X G (cd.fact 20 rfl)
    n_bool := He.free_ok X G (cd.fact 21 rfl)
    n_int := He.free_ok X G (cd.fact 22 rfl)
    n_isinstance := He.free_ok X G (cd.fact 23 rfl)
    n_len := He.free_ok X G (cd.fact 24 rfl)
    n_list := He.free_ok X G (cd.fact 25 rfl)
    n_ord := He.free_ok X G (cd.fact 26 rfl)
    n_range := He.free_ok X G (cd.fact 27 rfl)
    n_str := He.free_ok X G (cd.fact 28 rfl)
    c_PERCENT := He.int_ok X G (cd.fact 29 rfl)
    c_DIGITS := con_of X G (He.ba (c.more)).2 (List.mem_of_getElem? (i := 0) rfl)
    cls := cls_of (He.ba (c.more)).1 }
end Mi
set_option maxHeartbeats 1000000
namespace Mi
open PySem PySem.Spec L2
theorem cond_dec {α : Type} {p : Prop} [Decidable p] (a b : α) : cond (decide p) a b = if p then a else b := by
  by_cases h : p <;> simp [h]
theorem pow_add_lt {x y a b : Nat} (ha : x < 2 ^ a) (hb : y < 2 ^ b) : x * y < 2 ^ (a + b) := by
  rw [Nat.pow_add]; exact Nat.mul_lt_mul'' ha hb
theorem idx_nat {α : Type} {xs : List α} {j : Nat} {v : α} (h : xs[j]? = some v) : idx xs (j : Int) = .ok v := by
  unfold idx; rw [atI_nat h]
theorem compL_map {α β : Type} {t : α → Res Bool} {e : α → Res β} {g : α → β} {xs : List α} (ht : ∀ x ∈ xs, t x = .ok true) (he : ∀ x ∈ xs, e x = .ok (g x)) : compL t e xs = .ok (xs.map g) := by
  induction xs with
  | nil => rfl
  | cons x r ih =>
    show (t x).bind _ = _
    rw [ht x List.mem_cons_self]
    show (e x).bind _ = _
    rw [he x List.mem_cons_self]
    show (compL t e r).bind _ = _
    rw [ih (fun y hy => ht y (List.mem_cons_of_mem _ hy)) fun y hy => he y (List.mem_cons_of_mem _ hy)]
    rfl
mutual
/-- no truth values within -/
def D.nob : D → Bool
  | .bl _ => false
  | .ty _ => false
  | .obj _ _ _ => false
  | .ro _ => false
  | .dct _ _ => false
  | .tup xs => nobL xs
  | .lst xs => nobL xs
  | _ => true
def nobL : List D → Bool
  | [] => true
  | x :: xs => D.nob x && nobL xs
end
mutual
theorem pyEq_iff : ∀ (x y : D), x.nob = true → y.nob = true → (PyData.eqv x.py y.py = true ↔ x = y)
  | .non, y, _, h => by cases y <;> simp_all [D.py, PyData.eqv, D.nob]
  | .int i, y, _, h => by cases y <;> simp_all [D.py, PyData.eqv, D.nob]
  | .str s, y, _, h => by cases y <;> simp_all [D.py, PyData.eqv, D.nob]
  | .bl b, y, h, _ => by cases h
  | .ty b, y, h, _ => by cases h
  | .obj a b c, y, h, _ => by cases h
  | .ro a, y, h, _ => by cases h
  | .dct a b, y, h, _ => by cases h
  | .tup xs, y, h1, h => by
    cases y with
    | tup ys =>
      have := pyEqL_iff xs ys h1 h
      simp only [D.py, PyData.eqv, D.tup.injEq]; exact this
    | bl b => cases h
    | ty b => cases h
    | obj a b c => cases h
    | ro a => cases h
    | dct a b => cases h
    | _ => simp [D.py, PyData.eqv]
  | .lst xs, y, h1, h => by
    cases y with
    | lst ys =>
      have := pyEqL_iff xs ys h1 h
      simp only [D.py, PyData.eqv, D.lst.injEq]; exact this
    | bl b => cases h
    | ty b => cases h
    | obj a b c => cases h
    | ro a => cases h
    | dct a b => cases h
    | _ => simp [D.py, PyData.eqv]
theorem pyEqL_iff : ∀ (xs ys : List D), nobL xs = true → nobL ys = true → (PyData.eqvAll (pyL xs) (pyL ys) = true ↔ xs = ys)
  | [], ys, _, h => by cases ys <;> simp [pyL, PyData.eqvAll]
  | x :: xs, ys, h1, h => by
    cases ys with
    | nil => simp [pyL, PyData.eqvAll]
    | cons y ys =>
      obtain ⟨a1, a2⟩ := Bool.and_eq_true_iff.mp (show (D.nob x && nobL xs) = true from h1)
      obtain ⟨b1, b2⟩ := Bool.and_eq_true_iff.mp (show (D.nob y && nobL ys) = true from h)
      simp only [pyL, PyData.eqvAll, Bool.and_eq_true, pyEq_iff x y a1 b1, pyEqL_iff xs ys a2 b2, List.cons.injEq]
end
theorem pyEq_dec {x y : D} (hx : x.nob = true) (hy : y.nob = true) : pyEq x y = true ↔ x = y := pyEq_iff x y hx hy
theorem pyEq_self {x : D} (hx : x.nob = true) : pyEq x x = true := (pyEq_dec hx hx).mpr rfl
theorem pyEq_ne {x y : D} (hx : x.nob = true) (hy : y.nob = true) (h : x ≠ y) : pyEq x y = false := by
  cases e : pyEq x y with
  | false => rfl
  | true => exact absurd ((pyEq_dec hx hy).mp e) h
theorem nob_ints : ∀ xs : List Int, nobL (xs.map D.int) = true
  | [] => rfl
  | _ :: xs => nob_ints xs
theorem flat_ints : ∀ xs : List Int, flatL (xs.map D.int) = true
  | [] => rfl
  | _ :: xs => flat_ints xs
theorem lay_ints : ∀ xs : List Int, PyData.canLayAll0 (pyL (xs.map D.int)) = true
  | [] => rfl
  | _ :: xs => by show (true && _) = true; rw [lay_ints xs]; rfl
theorem dep_ints : ∀ xs : List Int, PyData.depthAll (pyL (xs.map D.int)) = 0
  | [] => rfl
  | _ :: xs => by show max 0 _ = 0; rw [dep_ints xs]; rfl
theorem okq_ints (xs : List Int) : (toD xs).okq = true := by
  show (flatL (xs.map D.int) && (PyData.canLayAll0 (pyL (xs.map D.int)) && decide (PyData.depthAll (pyL (xs.map D.int)) + 1 ≤ 64))) = true
  rw [flat_ints, lay_ints, dep_ints]; rfl
theorem toD_ints_inj {xs ys : List Int} (h : toD xs = toD ys) : xs = ys := by
  have h : xs.map D.int = ys.map D.int := D.lst.inj h
  exact List.map_inj_right (fun a b q => D.int.inj q) |>.mp h
theorem pyEq_ints (xs ys : List Int) : pyEq (toD xs) (toD ys) = decide (xs = ys) := by
  by_cases h : xs = ys
  · subst h; rw [pyEq_self (show (toD xs).nob = true from nob_ints xs)]; simp
  · rw [pyEq_ne (show (toD xs).nob = true from nob_ints xs) (show (toD ys).nob = true from nob_ints ys) fun e => h (toD_ints_inj e)]; simp [h]
theorem pyRange_drop {n i : Nat} (h : i < n) : (pyRange 0 (n : Int)).drop i = (i : Int) :: (pyRange 0 (n : Int)).drop (i + 1) := by
  have hl : (pyRange 0 (n : Int)).length = n := by rw [pyRange_len]; omega
  rw [List.drop_eq_getElem_cons (by omega)]
  congr 1
  have := pyRange_get (lo := 0) (hi := (n : Int)) (i := i) (by omega)
  rw [List.getElem?_eq_getElem (by omega)] at this
  have := Option.some.inj this
  omega
theorem compL_get {α β : Type} (f : α → Res β) {xs : List α} {ys : List β} (h : xs.length = ys.length) (he : ∀ i (h1 : i < xs.length) (h2 : i < ys.length), f xs[i] = .ok ys[i]) : compL (fun _ => .ok true) f xs = .ok ys := by
  induction xs generalizing ys with
  | nil => cases ys with
    | nil => rfl
    | cons y r => simp at h
  | cons x xs ih =>
    cases ys with
    | nil => simp at h
    | cons y ys =>
      show (f x).bind _ = _
      rw [show f x = .ok y from he 0 (by simp) (by simp)]
      show (compL (fun _ => .ok true) f xs).bind _ = _
      rw [ih (by simpa using h) fun i h1 h2 => he (i + 1) (by simp; omega) (by simp; omega)]
      rfl
end Mi
set_option maxHeartbeats 1000000
namespace Mi
/-! ### primes -/
def IsP (n : Nat) : Prop := 2 ≤ n ∧ ∀ d, d ∣ n → d = 1 ∨ d = n
def prodL (l : List Nat) : Nat := l.foldr (· * ·) 1
/-- the power's residue, as the kernel works it out -/
def pwm (n : Nat) : Nat → Nat → Nat → Nat → Nat
  | 0, _, _, acc => acc
  | f + 1, b, e, acc => pwm n f (b * b % n) (e / 2) (if e % 2 = 1 then acc * b % n else acc)
/-- one prime q of n - 1, by numbers -/
def pkOk (n a q f : Nat) : Bool := decide (q ∣ n - 1) && decide (n - 1 < 2 ^ f) && decide (pwm n f a (n - 1) 1 % n = 1) && decide (Nat.gcd (pwm n f a ((n - 1) / q) 1 % n - 1) n = 1) && decide (0 < pwm n f a ((n - 1) / q) 1 % n)
def noDiv (n : Nat) : Nat → Nat → Bool
  | 0, _ => true
  | f + 1, d => !decide (n % d = 0) && noDiv n f (d + 1)
end Mi
set_option maxHeartbeats 1000000
namespace Mi
/-! ### residues -/
theorem em_mul {p x y u v : Int} (h : x % p = u % p) (h2 : y % p = v % p) : x * y % p = u * v % p := by rw [Int.mul_emod, h, h2, ← Int.mul_emod]
theorem em_dvd {p x y : Int} (h : x % p = y % p) : p ∣ x - y := Int.dvd_of_emod_eq_zero (Int.emod_eq_emod_iff_emod_sub_eq_zero.mp h)
theorem em_of_dvd {p x y : Int} (h : p ∣ x - y) : x % p = y % p := Int.emod_eq_emod_iff_emod_sub_eq_zero.mpr (Int.emod_eq_zero_of_dvd h)
/-! ### a polynomial's roots -/
def evp : List Int → Int → Int
  | [], _ => 0
  | c :: cs, x => c + x * evp cs x
def dvp : List Int → Int → List Int
  | [], _ => []
  | [_], _ => []
  | _ :: d :: cs, r => evp (d :: cs) r :: dvp (d :: cs) r
end Mi
set_option maxHeartbeats 1000000
namespace Mi
/-! ### residues as a ring -/
def zr (p : Nat) (x y : Int) : Prop := x % p = y % p
def Zp (p : Nat) : Type := Quot (zr p)
def zm (p : Nat) (x : Int) : Zp p := Quot.mk _ x
theorem zr_iff {p : Nat} {x y : Int} : zr p x y ↔ (p : Int) ∣ x - y := ⟨fun h => em_dvd h, fun h => em_of_dvd h⟩
section
variable {p : Nat}
def zadd : Zp p → Zp p → Zp p := Quot.lift (fun x => Quot.lift (fun y => zm p (x + y)) fun a b h => Quot.sound (by
  rw [zr_iff] at h ⊢; rw [show x + a - (x + b) = a - b by omega]; exact h)) fun a b h => by
  funext y
  induction y using Quot.ind
  refine Quot.sound ?_
  rw [zr_iff] at h ⊢
  rename_i y
  rw [show a + y - (b + y) = a - b by omega]; exact h
def zmul : Zp p → Zp p → Zp p := Quot.lift (fun x => Quot.lift (fun y => zm p (x * y)) fun a b h => Quot.sound (em_mul rfl h)) fun a b h => by
  funext y
  induction y using Quot.ind
  exact Quot.sound (em_mul h rfl)
def zneg : Zp p → Zp p := Quot.lift (fun x => zm p (-x)) fun a b h => Quot.sound (by
  rw [zr_iff] at h ⊢
  rw [show -a - -b = -(a - b) by omega]; exact Int.dvd_neg.mpr h)
instance : Add (Zp p) := ⟨zadd⟩
instance : Mul (Zp p) := ⟨zmul⟩
instance : Neg (Zp p) := ⟨zneg⟩
instance : Sub (Zp p) := ⟨fun x y => x + -y⟩
instance : NatCast (Zp p) := ⟨fun n => zm p (n : Int)⟩
instance : IntCast (Zp p) := ⟨fun n => zm p n⟩
instance (n : Nat) : OfNat (Zp p) n := ⟨zm p (n : Int)⟩
def zpow (x : Zp p) : Nat → Zp p
  | 0 => 1
  | n + 1 => zpow x n * x
instance : HPow (Zp p) Nat (Zp p) := ⟨zpow⟩
instance : SMul Nat (Zp p) := ⟨fun n x => (n : Zp p) * x⟩
instance : SMul Int (Zp p) := ⟨fun n x => (n : Zp p) * x⟩
instance : Lean.Grind.CommRing (Zp p) where
  add_zero := fun a => Quot.inductionOn a (fun x => congrArg (zm p) (Int.add_zero x))
  add_comm := fun a b => Quot.inductionOn a (fun x => Quot.inductionOn b (fun y => congrArg (zm p) (Int.add_comm x y)))
  add_assoc := fun a b c => Quot.inductionOn a (fun x => Quot.inductionOn b (fun y => Quot.inductionOn c (fun z => congrArg (zm p) (Int.add_assoc x y z))))
  mul_assoc := fun a b c => Quot.inductionOn a (fun x => Quot.inductionOn b (fun y => Quot.inductionOn c (fun z => congrArg (zm p) (Int.mul_assoc x y z))))
  mul_one := fun a => Quot.inductionOn a (fun x => congrArg (zm p) (Int.mul_one x))
  one_mul := fun a => Quot.inductionOn a (fun x => congrArg (zm p) (Int.one_mul x))
  left_distrib := fun a b c => Quot.inductionOn a (fun x => Quot.inductionOn b (fun y => Quot.inductionOn c (fun z => congrArg (zm p) (Int.mul_add x y z))))
  right_distrib := fun a b c => Quot.inductionOn a (fun x => Quot.inductionOn b (fun y => Quot.inductionOn c (fun z => congrArg (zm p) (Int.add_mul x y z))))
  zero_mul := fun a => Quot.inductionOn a (fun x => congrArg (zm p) (Int.zero_mul x))
  mul_zero := fun a => Quot.inductionOn a (fun x => congrArg (zm p) (Int.mul_zero x))
  pow_zero := fun a => rfl
  pow_succ := fun a n => rfl
  ofNat_succ := fun n => rfl
  ofNat_eq_natCast := fun n => rfl
  nsmul_eq_natCast_mul := fun n a => rfl
  neg_add_cancel := fun a => Quot.inductionOn a (fun x => congrArg (zm p) (Int.add_left_neg x))
  sub_eq_add_neg := fun a b => rfl
  neg_zsmul := fun i a => Quot.inductionOn a (fun x => congrArg (zm p) (Int.neg_mul i x))
  zsmul_natCast_eq_nsmul := fun n a => rfl
  intCast_ofNat := fun n => rfl
  intCast_neg := fun i => rfl
  mul_comm := fun a b => Quot.inductionOn a (fun x => Quot.inductionOn b (fun y => congrArg (zm p) (Int.mul_comm x y)))
end
end Mi
namespace Mi
end Mi
set_option maxHeartbeats 1000000
namespace Mi
open PySem PySem.Spec L2
/-! ### sizes, found by themselves -/
class Bd (x : Int) (n : outParam Nat) : Prop where
  lt : x.natAbs < 2 ^ n
class Pb (p : Nat) : Prop where
  pos : 0 < p
  lt : p < 2 ^ 256
theorem Bd.up {x : Int} {m n : Nat} (h : x.natAbs < 2 ^ m) (e : m ≤ n) : x.natAbs < 2 ^ n := Nat.lt_of_lt_of_le h (Nat.pow_le_pow_right (by decide) e)
instance bd_mul {x y : Int} {a b : Nat} [h1 : Bd x a] [h2 : Bd y b] : Bd (x * y) (a + b) := ⟨by rw [Int.natAbs_mul]; exact pow_add_lt h1.lt h2.lt⟩
theorem two_sum {u v a b : Nat} (h1 : u < 2 ^ a) (h2 : v < 2 ^ b) : u + v < 2 ^ (max a b + 1) := by
  have := Nat.lt_of_lt_of_le h1 (Nat.pow_le_pow_right (show 0 < 2 by decide) (Nat.le_max_left a b))
  have := Nat.lt_of_lt_of_le h2 (Nat.pow_le_pow_right (show 0 < 2 by decide) (Nat.le_max_right a b))
  rw [Nat.pow_succ]; omega
instance bd_add {x y : Int} {a b : Nat} [h1 : Bd x a] [h2 : Bd y b] : Bd (x + y) (max a b + 1) := ⟨Nat.lt_of_le_of_lt (Int.natAbs_add_le x y) (two_sum h1.lt h2.lt)⟩
instance bd_sub {x y : Int} {a b : Nat} [h1 : Bd x a] [h2 : Bd y b] : Bd (x - y) (max a b + 1) := ⟨Nat.lt_of_le_of_lt (Int.natAbs_sub_le x y) (two_sum h1.lt h2.lt)⟩
instance bd_neg {x : Int} {a : Nat} [h1 : Bd x a] : Bd (-x) a := ⟨by rw [Int.natAbs_neg]; exact h1.lt⟩
instance bd_pow {x : Int} {a k : Nat} [h1 : Bd x a] : Bd (x ^ k) (a * k + 1) := ⟨by
  rw [Int.natAbs_pow]
  have : x.natAbs ^ k ≤ (2 ^ a) ^ k := Nat.pow_le_pow_left (Nat.le_of_lt h1.lt) k
  rw [← Nat.pow_mul] at this
  have : 2 ^ (a * k) < 2 ^ (a * k + 1) := Nat.pow_lt_pow_right (by decide) (by omega)
  omega⟩
instance : Bd (0 : Int) 8 := ⟨by decide⟩
instance : Bd (1 : Int) 8 := ⟨by decide⟩
instance : Bd (2 : Int) 8 := ⟨by decide⟩
instance : Bd (3 : Int) 8 := ⟨by decide⟩
instance : Bd (4 : Int) 8 := ⟨by decide⟩
instance : Bd (5 : Int) 8 := ⟨by decide⟩
instance : Bd (6 : Int) 8 := ⟨by decide⟩
instance : Bd (7 : Int) 8 := ⟨by decide⟩
instance : Bd (8 : Int) 8 := ⟨by decide⟩
instance : Bd (9 : Int) 8 := ⟨by decide⟩
instance : Bd (12 : Int) 8 := ⟨by decide⟩
instance : Bd (13 : Int) 8 := ⟨by decide⟩
instance : Bd (16 : Int) 8 := ⟨by decide⟩
instance : Bd (27 : Int) 8 := ⟨by decide⟩
instance : Bd (2147483648 : Int) 70 := ⟨by decide +kernel⟩
instance : Bd (4294967296 : Int) 70 := ⟨by decide +kernel⟩
instance : Bd (2305843009213693952 : Int) 70 := ⟨by decide +kernel⟩
instance : Bd (9223372036854775808 : Int) 70 := ⟨by decide +kernel⟩
instance : Bd (18446744073709551616 : Int) 70 := ⟨by decide +kernel⟩
instance : Bd (6277101735386680763835789423207666416102355444464034512896 : Int) 200 := ⟨by decide +kernel⟩
instance bd_p {p : Nat} [h : Pb p] : Bd (p : Int) 256 := ⟨by rw [Int.natAbs_natCast]; exact h.lt⟩
instance bd_mod {p : Nat} {x : Int} [h : Pb p] : Bd (x % (p : Int)) 256 := ⟨by
  have := h.pos; have := h.lt
  have := Int.emod_nonneg x (show (p : Int) ≠ 0 by omega)
  have := Int.emod_lt_of_pos x (show (0 : Int) < (p : Int) by omega)
  omega⟩
end Mi
namespace Mi
open PySem PySem.Spec L2
/-! ### the law's own helpers -/
theorem cell_ok (ns : Ro Int) (k : Nat) : m_u_law_cell ns (k : Int) = .ok (ns.xs.getD k 0) := by
  unfold m_u_law_cell
  simp only [Res.bind_ok, cond_dec]
  by_cases h : (k : Int) < (ns.xs.length : Int)
  · rw [if_pos h]
    have h' : k < ns.xs.length := by omega
    rw [idx_nat (List.getElem?_eq_getElem h')]
    simp [Res.bind_ok, h']
  · rw [if_neg h]
    have h' : ¬ k < ns.xs.length := by omega
    simp [h']
theorem cell_ex (ns : Ro Int) {k : Int} (hk : 0 ≤ k) : ∃ c, m_u_law_cell ns k = .ok c := by
  obtain ⟨j, rfl⟩ := Int.eq_ofNat_of_zero_le hk
  exact ⟨_, cell_ok ns j⟩


/-! ### codes of texts -/
abbrev iw (l : List Nat) : List Int := l.map fun (n : Nat) => (n : Int)
def cds (x : Str) : List Nat := x.cps.toList
def okc (c : Nat) : Bool := decide (32 ≤ c) && (decide (c ≤ 126) && !decide (c = 37))
theorem ords_of : ∀ l : List Nat, compL (fun (_ : Str) => Res.ok true) (fun (x : Str) => Res.need (x.length = 1) (Res.ok ((x.cps.getD 0 0 : Nat) : Int))) (l.map fun c => (⟨#[c]⟩ : Str)) = .ok (iw l)
  | [] => rfl
  | c :: r => by
    rw [List.map_cons]
    unfold compL
    rw [ords_of r, Res.need_pos (show (⟨#[c]⟩ : Str).length = 1 from rfl)]; rfl
theorem chars_codes (x : Str) : compL (fun (_ : Str) => Res.ok true) (fun (x : Str) => Res.need (x.length = 1) (Res.ok ((x.cps.getD 0 0 : Nat) : Int))) (chars x) = .ok (iw (cds x)) := ords_of _
theorem chars_ln (x : Str) : (chars x).length = (cds x).length := by rw [chars_len]; rfl
theorem ascii_l1 (kk : Unit → Res (List Int)) : ∀ l : List Nat, (l.all okc = true → m_ascii_codes_l1 kk (iw l) () = kk ()) ∧ (l.all okc = false → m_ascii_codes_l1 kk (iw l) () = .exc "Malformed")
  | [] => ⟨fun _ => rfl, fun h => by cases h⟩
  | c :: r => by
    have e : m_ascii_codes_l1 kk (iw (c :: r)) () = if okc c = true then m_ascii_codes_l1 kk (iw r) () else .exc "Malformed" := by
      show m_ascii_codes_l1 kk ((c : Int) :: iw r) () = _
      rw [m_ascii_codes_l1]
      unfold okc
      dsimp only
      by_cases h1 : c < 32
      · rw [decide_eq_true (show (c : Int) < 32 by omega), decide_eq_false (show ¬ 32 ≤ c by omega)]; rfl
      · rw [decide_eq_false (show ¬ (c : Int) < 32 by omega), decide_eq_true (show 32 ≤ c by omega)]
        by_cases h2 : 126 < c
        · rw [decide_eq_true (show (126 : Int) < c by omega), decide_eq_false (show ¬ c ≤ 126 by omega)]; rfl
        · rw [decide_eq_false (show ¬ (126 : Int) < c by omega), decide_eq_true (show c ≤ 126 by omega)]
          by_cases h3 : c = 37
          · subst h3; rfl
          · rw [decide_eq_false (show ¬ (c : Int) = 37 by omega), decide_eq_false h3]; rfl
    have ih := ascii_l1 kk r
    rw [List.all_cons, e]
    cases h : okc c with
    | true => exact ⟨fun q => by rw [if_pos rfl]; exact ih.1 q, fun q => by rw [if_pos rfl]; exact ih.2 q⟩
    | false => exact ⟨fun q => (by rw [Bool.false_and] at q; cases q), fun _ => by rw [if_neg (by decide)]⟩
theorem ascii_ok {x : Str} (h : (cds x).all okc = true) (hl : (cds x).length ≤ 16777216) : m_ascii_codes x = .ok (iw (cds x)) := by
  unfold m_ascii_codes
  simp only [Res.bind_ok]
  rw [Res.need_pos (by rw [chars_ln]; exact hl), chars_codes, Res.bind_ok, (ascii_l1 _ _).1 h]
  rfl
theorem ascii_bad {x : Str} (h : (cds x).all okc = false) (hl : (cds x).length ≤ 16777216) : m_ascii_codes x = .exc "Malformed" := by
  unfold m_ascii_codes
  simp only [Res.bind_ok]
  rw [Res.need_pos (by rw [chars_ln]; exact hl), chars_codes, Res.bind_ok, (ascii_l1 _ _).2 h]

/-! ### k01: texts by their codes, digits -/
theorem dg_all : (List.range 16).all (fun n => decide (tfind k_DIGITS ⟨#[dgc n]⟩ = some n)) = true := by decide +kernel
theorem dg_list : (Str.cps k_DIGITS).toList = (List.range 16).map dgc := by decide +kernel
theorem cds_app (x y : Str) : cds (x ++ y) = cds x ++ cds y := by
  cases x; cases y
  exact Array.toList_append
theorem join_flat (ps : List Str) : cds (Txt.join ("" : Str) ps) = ps.flatMap cds := by
  rw [TL.join_eq]
  have e := TL.tl_join ("" : Str) ps
  refine (show _ = _ from e).trans ?_
  show TL.joinL [] (ps.map cds) = _
  have : ∀ l : List Str, TL.joinL [] (l.map cds) = l.flatMap cds := fun l => by
    induction l with
    | nil => rfl
    | cons a r ih =>
      cases r with
      | nil => show cds a = cds a ++ []; rw [List.append_nil]
      | cons b r =>
        show cds a ++ ([] ++ TL.joinL [] ((b :: r).map cds)) = cds a ++ (b :: r).flatMap cds
        rw [List.nil_append, ih]
  exact this ps
theorem sum_len (ps : List Str) : (ps.map (·.length)).sum = (ps.flatMap cds).length := by
  induction ps with
  | nil => rfl
  | cons a r ih => rw [List.map_cons, List.sum_cons, ih, List.flatMap_cons, List.length_append]; rfl
theorem atI_at {l : List Nat} {j : Nat} {c : Nat} (h : l[j]? = some c) : atI l (j : Int) = some c := by
  have hj := (List.getElem?_eq_some_iff.mp h).1
  unfold atI ixN
  rw [if_pos (by omega), if_pos (by omega)]
  simp [h]
theorem sidx_at {x : Str} {j : Nat} {c : Nat} (h : (cds x)[j]? = some c) (hl : (cds x).length < 16777216) : sidx x (j : Int) = .ok ⟨#[c]⟩ := by
  have e : atI x.cps.toList (j : Int) = some c := atI_at h
  unfold sidx
  rw [e]
  exact Res.need_pos hl
def hx (c : Nat) : Bool := decide (c ∈ (Str.cps k_DIGITS).toList)
def vl (c : Nat) : Int := (((tfind k_DIGITS ⟨#[c]⟩).getD 0 : Nat) : Int)
theorem hx_of {n : Nat} (h : n < 16) : hx (dgc n) = true := by
  refine decide_eq_true ?_
  rw [dg_list]
  exact List.mem_map.mpr ⟨n, List.mem_range.mpr h, rfl⟩
theorem tf_of {n : Nat} (h : n < 16) : tfind k_DIGITS ⟨#[dgc n]⟩ = some n := of_decide_eq_true (List.all_eq_true.mp dg_all n (List.mem_range.mpr h))
theorem vl_of {n : Nat} (h : n < 16) : vl (dgc n) = (n : Int) := by unfold vl; rw [tf_of h]; rfl
theorem hx_ex {c : Nat} (h : hx c = true) : ∃ n, n < 16 ∧ c = dgc n := by
  have h := of_decide_eq_true h
  rw [dg_list] at h
  obtain ⟨n, hn, rfl⟩ := List.mem_map.mp h
  exact ⟨n, List.mem_range.mp hn, rfl⟩
theorem tf_hx {c : Nat} (h : hx c = true) : ∃ n : Nat, tfind k_DIGITS ⟨#[c]⟩ = some n ∧ vl c = (n : Int) := by
  obtain ⟨n, hn, rfl⟩ := hx_ex h
  exact ⟨n, tf_of hn, vl_of hn⟩
theorem digit_ok (c : Nat) : m_u_digit ⟨#[c]⟩ = if hx c = true then .ok (vl c) else .exc "Malformed" := by
  unfold m_u_digit
  rw [Res.need_pos (show (⟨#[c]⟩ : Str).length = 1 from rfl), Res.bind_ok]
  show cond (!hx c) _ _ = _
  cases q : hx c with
  | false => rfl
  | true =>
    obtain ⟨n, e, v⟩ := tf_hx q
    rw [Bool.not_true, cond_false, e, if_pos rfl, v]
theorem digs_l : ∀ l : List Nat, compL (fun (_ : Str) => Res.ok true) (fun (x : Str) => m_u_digit x) (l.map fun c => (⟨#[c]⟩ : Str)) = if l.all hx = true then .ok (l.map vl) else .exc "Malformed"
  | [] => rfl
  | c :: r => by
    rw [List.map_cons]
    unfold compL
    rw [Res.bind_ok, cond_true, digit_ok c, digs_l r, List.all_cons]
    cases hx c with
    | false => rfl
    | true =>
      cases r.all hx with
      | false => rfl
      | true => rfl
def pairs : List Int → List Int
  | a :: b :: r => (16 * a + b) :: pairs r
  | _ => []
theorem pairs_get : ∀ (h : List Int) (i : Nat), 2 * i + 1 < h.length → ∃ a b, h[2 * i]? = some a ∧ h[2 * i + 1]? = some b ∧ (pairs h)[i]? = some (16 * a + b)
  | [], _, hi => absurd hi (Nat.not_lt_zero _)
  | [_], i, hi => by rw [List.length_singleton] at hi; omega
  | a :: b :: r, 0, _ => ⟨a, b, rfl, rfl, rfl⟩
  | a :: b :: r, i + 1, hi => by
    obtain ⟨x, y, e1, e2, e3⟩ := pairs_get r i (by rw [List.length_cons, List.length_cons] at hi; omega)
    refine ⟨x, y, ?_, ?_, e3⟩
    · rw [show 2 * (i + 1) = 2 * i + 1 + 1 by omega]; exact e1
    · rw [show 2 * (i + 1) + 1 = 2 * i + 1 + 1 + 1 by omega]; exact e2
theorem pairs_len : ∀ h : List Int, (pairs h).length = h.length / 2
  | [] => rfl
  | [_] => by show 0 = 1 / 2; rfl
  | a :: b :: r => by
    show (pairs r).length + 1 = _
    rw [pairs_len r, List.length_cons, List.length_cons]; omega
theorem comb_ok {h : List Int} (he : h.length % 2 = 0) : compL (fun (x11 : Int) => Res.ok true) (fun (x11 : Int) => ((idx h x11).bind fun (t12 : Int) => Res.ok ((16 : Int) * t12)).bind fun (t13 : Int) => (idx h (x11 + (1 : Int))).bind fun (t14 : Int) => Res.ok (t13 + t14)) (pyStep (0 : Int) (h.length : Int) (2 : Int)) = .ok (pairs h) := by
  have sl : stepN 0 (h.length : Int) 2 = h.length / 2 := by
    unfold stepN
    by_cases c : (0 : Int) < (h.length : Int)
    · rw [if_pos c]; omega
    · rw [if_neg c]; omega
  refine compL_get _ (by rw [pyStep_len, sl, pairs_len]) fun i h1 h2 => ?_
  rw [pyStep_len, sl] at h1
  obtain ⟨a, b, e1, e2, e3⟩ := pairs_get h i (by omega)
  have s := pyStep_get (i := 0) (j := (h.length : Int)) (c := 2) (a := i) (by rw [sl]; exact h1)
  rw [List.getElem?_eq_getElem (by rw [pyStep_len, sl]; exact h1)] at s
  have s := Option.some.inj s
  rw [List.getElem?_eq_getElem h2] at e3
  rw [s, show (0 : Int) + (i : Int) * 2 = ((2 * i : Nat) : Int) by omega, idx_nat e1, Res.bind_ok, Res.bind_ok, show ((2 * i : Nat) : Int) + 1 = ((2 * i + 1 : Nat) : Int) by omega, idx_nat e2, Res.bind_ok, Option.some.inj e3]
theorem fd_ok (x : Str) (hl : (cds x).length ≤ 10000) : m_from_digits x = if (cds x).length % 2 = 1 then .exc "Malformed" else if (cds x).all hx = true then .ok (pairs ((cds x).map vl)) else .exc "Malformed" := by
  have ln : x.length = (cds x).length := rfl
  unfold m_from_digits
  rw [Res.need_pos (by rw [ln]; omega), ln]
  simp only [Res.bind_ok]
  by_cases o : (cds x).length % 2 = 1
  · rw [decide_eq_true (by omega), cond_true, if_pos o]
  · rw [decide_eq_false (by omega), cond_false, if_neg o, Res.need_pos (by rw [chars_ln]; omega)]
    show ((compL (fun (_ : Str) => Res.ok true) (fun (x : Str) => m_u_digit x) ((cds x).map fun c => (⟨#[c]⟩ : Str))).bind _) = _
    rw [digs_l]
    cases q : (cds x).all hx with
    | false => rfl
    | true =>
      have lm : ((cds x).map vl).length = (cds x).length := List.length_map ..
      rw [if_pos rfl, if_pos rfl, Res.bind_ok, Res.need_pos ⟨⟨by decide, by decide⟩, ⟨by omega, by omega⟩, by decide, by decide⟩, Res.bind_ok, Res.need_pos (by rw [pyStep_len]; unfold stepN; split <;> omega)]
      exact comb_ok (by omega)
abbrev rF : D := toD (T2.mk ("refused" : Str) ("malformed" : Str))
theorem due_l2 (x : Str) (hl : (cds x).length ≤ 10000) (k2 : List Int → Res D) : ∀ (rest pre : List Nat) (acc : List Int) (i m : Nat), cds x = pre ++ rest → pre.length = 2 * i → rest.length = 2 * m → acc.length + m ≤ 10000 →
    m_u_law_due_l2 x k2 ((pyRange 0 ((i + m : Nat) : Int)).drop i) acc = if rest.all hx = true then k2 (acc ++ pairs (rest.map vl)) else .ok rF
  | [], pre, acc, i, m, e, hp, hm, _ => by
    have m0 : m = 0 := by simp at hm; omega
    subst m0
    have : (pyRange 0 ((i + 0 : Nat) : Int)).length = i := by rw [pyRange_len]; omega
    rw [List.drop_eq_nil_of_le (by omega), m_u_law_due_l2]
    show _ = k2 (acc ++ [])
    rw [List.append_nil]
  | [a], pre, acc, i, m, e, hp, hm, _ => by rw [List.length_singleton] at hm; omega
  | a :: b :: r, pre, acc, i, m, e, hp, hm, hac => by
    obtain ⟨m, rfl⟩ : ∃ k, m = k + 1 := ⟨m - 1, by rw [List.length_cons, List.length_cons] at hm; omega⟩
    have ea : (cds x)[2 * i]? = some a := by rw [e, List.getElem?_append_right (by omega), hp, Nat.sub_self]; rfl
    have eb : (cds x)[2 * i + 1]? = some b := by rw [e, List.getElem?_append_right (by omega), hp, show 2 * i + 1 - 2 * i = 1 by omega]; rfl
    have s1 : sidx x ((2 : Int) * (i : Int)) = .ok ⟨#[a]⟩ := by
      rw [show (2 : Int) * (i : Int) = ((2 * i : Nat) : Int) by omega]; exact sidx_at ea (by omega)
    have s2 : sidx x ((2 : Int) * (i : Int) + 1) = .ok ⟨#[b]⟩ := by
      rw [show (2 : Int) * (i : Int) + 1 = ((2 * i + 1 : Nat) : Int) by omega]; exact sidx_at eb (by omega)
    have dl : m_u_law_digits = .ok k_DIGITS := rfl
    rw [pyRange_drop (by omega), m_u_law_due_l2]
    dsimp only
    rw [s1, s2, dl]
    simp only [Res.bind_ok]
    rw [Res.need_pos (show (⟨#[a]⟩ : Str).length = 1 from rfl), Res.need_pos (show (⟨#[b]⟩ : Str).length = 1 from rfl), Res.bind_ok]
    show ((cond (!hx a) (Res.ok true) (Res.ok (!hx b))).bind _) = _
    rw [List.all_cons, List.all_cons]
    cases qa : hx a with
    | false => rfl
    | true =>
      cases qb : hx b with
      | false => rfl
      | true =>
        obtain ⟨n1, f1, v1⟩ := tf_hx qa
        obtain ⟨n2, f2, v2⟩ := tf_hx qb
        rw [Bool.not_true, cond_false, Res.bind_ok, cond_false, f1, f2]
        simp only [Res.bind_ok]
        rw [Res.need_pos (by omega), ← v1, ← v2, show i + (m + 1) = i + 1 + m by omega]
        rw [due_l2 x hl k2 r (pre ++ [a, b]) (acc ++ [16 * vl a + vl b]) (i + 1) m (by rw [e, List.append_assoc]; rfl) (by rw [List.length_append]; show pre.length + 2 = _; omega) (by rw [List.length_cons, List.length_cons] at hm; omega) (by rw [List.length_append, List.length_singleton]; omega)]
        rw [List.append_assoc]
        rfl
theorem due_ok (x : Str) (hl : (cds x).length ≤ 10000) : m_u_law_due x = .ok (if (cds x).length % 2 = 1 then rF else if (cds x).all hx = true then toD (pairs ((cds x).map vl)) else rF) := by
  have ln : x.length = (cds x).length := rfl
  unfold m_u_law_due
  rw [Res.need_pos (by rw [ln]; omega), ln]
  simp only [Res.bind_ok]
  by_cases o : (cds x).length % 2 = 1
  · rw [decide_eq_true (by omega), cond_true, if_pos o]
  · rw [decide_eq_false (by omega), cond_false, if_neg o, show ((cds x).length : Int) / 2 = (((0 + (cds x).length / 2 : Nat)) : Int) by omega, Res.need_pos ⟨by omega, by omega⟩, Res.bind_ok]
    have := due_l2 x hl m_u_law_due_k4 (cds x) [] [] 0 ((cds x).length / 2) rfl rfl (by omega) (by show 0 + _ ≤ _; omega)
    rw [List.drop_zero] at this
    rw [this]
    cases (cds x).all hx <;> rfl
theorem told0 (x : Str) (hl : (cds x).length ≤ 10000) : m_u_law_told x 0 = m_u_law_due x := by
  rw [due_ok x hl]
  unfold m_u_law_told
  rw [fd_ok x hl]
  by_cases o : (cds x).length % 2 = 1
  · rw [if_pos o, if_pos o]; rfl
  · rw [if_neg o, if_neg o]
    cases (cds x).all hx <;> rfl
theorem told1_ok {x : Str} (h : (cds x).all okc = true) (hl : (cds x).length ≤ 10000) : m_u_law_told x 1 = .ok (toD (iw (cds x))) := by
  unfold m_u_law_told
  rw [ascii_ok h (by omega)]; rfl
theorem told1_f {x : Str} (h : (cds x).all okc = false) (hl : (cds x).length ≤ 10000) : m_u_law_told x 1 = .ok rF := by
  unfold m_u_law_told
  rw [ascii_bad h (by omega)]; rfl

/-! ### k01: drawn bytes, kinds, the law -/
def B8s (ds : List Int) : Prop := ∀ d ∈ ds, 0 ≤ d ∧ d ≤ 255
theorem b8_snoc {ds : List Int} (h : B8s ds) {y : Int} (y0 : 0 ≤ y) (y1 : y ≤ 255) : B8s (ds ++ [y]) := fun d hd => by
  rcases List.mem_append.mp hd with hd | hd
  · exact h d hd
  · cases List.mem_singleton.mp hd; exact ⟨y0, y1⟩
theorem by_l1 : ∀ (ks : List Int) (rest : Int) (ds : List Int), B8s ds → ds.length + ks.length ≤ 10000 → ∃ es, m_u_law_bytes_l1 m_u_law_bytes_k2 ks (rest, ds) = .ok es ∧ B8s es ∧ es.length = ds.length + ks.length
  | [], rest, ds, h, _ => ⟨ds, by rw [m_u_law_bytes_l1]; rfl, h, rfl⟩
  | k :: r, rest, ds, h, hl => by
    rw [List.length_cons] at hl ⊢
    obtain ⟨es, e, b, l⟩ := by_l1 r (rest / 256) (ds ++ [rest % 256]) (b8_snoc h (by omega) (by omega)) (by rw [List.length_append, List.length_singleton]; omega)
    refine ⟨es, ?_, b, by rw [l, List.length_append, List.length_singleton]; omega⟩
    rw [m_u_law_bytes_l1]
    simp only [Res.bind_ok, Res.need_pos (show ds.length < 16777216 by omega)]
    exact e
theorem by_l5 : ∀ (ks : List Int) (ds : List Int) (st : Int), B8s ds → ds.length + ks.length ≤ 10000 → ∃ es, m_u_law_bytes_l5 m_u_law_bytes_k6 ks (ds, st) = .ok es ∧ B8s es ∧ es.length = ds.length + ks.length
  | [], ds, st, h, _ => ⟨ds, by rw [m_u_law_bytes_l5]; rfl, h, rfl⟩
  | k :: r, ds, st, h, hl => by
    rw [List.length_cons] at hl ⊢
    have go : ∀ y s : Int, 0 ≤ y → y ≤ 255 → ∃ es, m_u_law_bytes_l5 m_u_law_bytes_k6 r (ds ++ [y], s) = .ok es ∧ B8s es ∧ es.length = ds.length + (r.length + 1) := fun y s y0 y1 => by
      obtain ⟨es, e, b, l⟩ := by_l5 r (ds ++ [y]) s (b8_snoc h y0 y1) (by rw [List.length_append, List.length_singleton]; omega)
      exact ⟨es, e, b, by rw [l, List.length_append, List.length_singleton]; omega⟩
    rw [m_u_law_bytes_l5]
    simp only [Res.bind_ok, Res.need_pos (show ds.length < 16777216 by omega)]
    exact go _ _ (by omega) (by omega)
theorem by_ok (c salt : Int) {n : Nat} (hn : n ≤ 1000) : ∃ es, m_u_law_bytes c salt (n : Int) = .ok es ∧ B8s es ∧ es.length = n := by
  have pl : (pyRange 0 (n : Int)).length = n := by rw [pyRange_len]; omega
  have rg : okRange (n : Int) := ⟨by omega, by omega⟩
  have nil8 : B8s [] := fun _ h => nomatch h
  unfold m_u_law_bytes
  simp only [Res.bind_ok, Res.need_pos rg]
  cases decide ((10 : Int) ^ (18 : Int).toNat ≤ (c.natAbs : Int)) with
  | true =>
    obtain ⟨es, e, b, l⟩ := by_l1 (pyRange 0 (n : Int)) ((c.natAbs : Int) - (10 : Int) ^ (18 : Int).toNat) [] nil8 (by rw [pl]; show 0 + n ≤ _; omega)
    exact ⟨es, e, b, by rw [l, pl]; show 0 + n = n; omega⟩
  | false =>
    rw [cond_false]
    cases decide ((c.natAbs : Int) % 7 = 5) with
    | true =>
      rw [cond_true, Res.need_pos (by omega)]
      have iv : ∃ v, idx ([(0 : Int), (255 : Int), (1 : Int), (128 : Int), (127 : Int)] : List Int) ((c.natAbs : Int) / 7 % 5) = .ok v ∧ 0 ≤ v ∧ v ≤ 255 := by
        have h0 := Int.emod_nonneg ((c.natAbs : Int) / 7) (show (5 : Int) ≠ 0 by decide)
        have h1 := Int.emod_lt_of_pos ((c.natAbs : Int) / 7) (show (0 : Int) < 5 by decide)
        generalize (c.natAbs : Int) / 7 % 5 = i at *
        rcases (show i = 0 ∨ i = 1 ∨ i = 2 ∨ i = 3 ∨ i = 4 by omega) with rfl | rfl | rfl | rfl | rfl
        · exact ⟨_, idx_nat (j := 0) rfl, by decide, by decide⟩
        · exact ⟨_, idx_nat (j := 1) rfl, by decide, by decide⟩
        · exact ⟨_, idx_nat (j := 2) rfl, by decide, by decide⟩
        · exact ⟨_, idx_nat (j := 3) rfl, by decide, by decide⟩
        · exact ⟨_, idx_nat (j := 4) rfl, by decide, by decide⟩
      obtain ⟨v, ev, v0, v1⟩ := iv
      refine ⟨_, compL_map (g := fun _ => v) (fun _ _ => rfl) (fun _ _ => ev), fun d hd => ?_, by rw [List.length_map, pl]⟩
      obtain ⟨_, _, rfl⟩ := List.mem_map.mp hd
      exact ⟨v0, v1⟩
    | false =>
      rw [cond_false]
      obtain ⟨es, e, b, l⟩ := by_l5 (pyRange 0 (n : Int)) [] (((((c.natAbs : Int) * (48271 : Int)) + (salt * (69621 : Int))) + (12345 : Int)) % (2147483647 : Int)) nil8 (by rw [pl]; show 0 + n ≤ _; omega)
      exact ⟨es, e, b, by rw [l, pl]; show 0 + n = n; omega⟩
/-! the digits of bytes -/
def dgs (ds : List Int) : Str := Txt.join ("" : Str) (ds.map fun b => hex2 b.toNat)
def hxF (b : Int) : List Nat := [dgc (b.toNat / 16), dgc (b.toNat % 16)]
theorem dgs_cds (ds : List Int) : cds (dgs ds) = ds.flatMap hxF := by
  unfold dgs
  rw [join_flat, List.flatMap_map]
  rfl
theorem dgs_len (ds : List Int) : (cds (dgs ds)).length = 2 * ds.length := by
  rw [dgs_cds]
  induction ds with
  | nil => rfl
  | cons d r ih =>
    rw [List.flatMap_cons, List.length_append, ih]
    show 2 + 2 * r.length = 2 * (r.length + 1)
    omega
theorem todig_ok {ds : List Int} (h : B8s ds) (hl : ds.length ≤ 1000) : m_to_digits ds = .ok (dgs ds) := by
  have sl : ((ds.map fun b => hex2 b.toNat).map (·.length)).sum = 2 * ds.length := by
    rw [sum_len, ← join_flat]
    exact dgs_len ds
  unfold m_to_digits
  rw [Res.bind_ok, Res.need_pos (by omega), compL_map (e := fun (x3 : Int) => Res.need (0 ≤ x3 ∧ x3 < 256) (Res.ok (hex2 (Int.toNat x3)))) (g := fun b => hex2 b.toNat) (fun _ _ => rfl) (fun x hx => Res.need_pos ⟨(h x hx).1, by have := (h x hx).2; omega⟩), Res.bind_ok, Res.need_pos (by rw [sl]; show 2 * ds.length + _ * 0 ≤ _; omega)]
  rfl
theorem dig_at {n : Nat} (h : n < 16) : sidx k_DIGITS (n : Int) = .ok ⟨#[dgc n]⟩ := by
  have l : (cds k_DIGITS).length = 16 := by
    show (Str.cps k_DIGITS).toList.length = 16
    rw [dg_list]; rfl
  refine sidx_at ?_ (by rw [l]; decide)
  show (Str.cps k_DIGITS).toList[n]? = _
  rw [dg_list, List.getElem?_map, List.getElem?_range h]; rfl
theorem two_at {b : Int} (h0 : 0 ≤ b) (h1 : b ≤ 255) : (((m_u_law_digits ).noexc).bind fun (t90 : Str) => sidx t90 (b / (16 : Int))).bind (fun (t92 : Str) => (((m_u_law_digits ).noexc).bind fun (t91 : Str) => sidx t91 (b % (16 : Int))).bind fun (t93 : Str) => Res.need (t92.length + t93.length ≤ 16777216) (Res.ok (t92 ++ t93))) = .ok (hex2 b.toNat) := by
  have dl : (m_u_law_digits).noexc = .ok k_DIGITS := rfl
  obtain ⟨n, rfl⟩ := Int.eq_ofNat_of_zero_le h0
  rw [dl, Res.bind_ok, Res.bind_ok, show (n : Int) / 16 = ((n / 16 : Nat) : Int) by omega, show (n : Int) % 16 = ((n % 16 : Nat) : Int) by omega, dig_at (by omega), Res.bind_ok, dig_at (by omega), Res.bind_ok]
  exact Res.need_pos (by show 1 + 1 ≤ 16777216; decide)
theorem back_ok {ds : List Int} (h : B8s ds) (hl : ds.length ≤ 1000) : m_from_digits (dgs ds) = .ok ds := by
  have l := dgs_len ds
  have a : (cds (dgs ds)).all hx = true := by
    rw [dgs_cds, List.all_eq_true]
    intro c hc
    obtain ⟨b, hb, hc⟩ := List.mem_flatMap.mp hc
    have := h b hb
    rcases List.mem_cons.mp hc with rfl | hc
    · exact hx_of (by omega)
    · cases List.mem_singleton.mp hc; exact hx_of (by omega)
  rw [fd_ok _ (by omega), if_neg (by omega), if_pos a, dgs_cds]
  congr 1
  clear a l hl
  induction ds with
  | nil => rfl
  | cons b r ih =>
    have hb := h b List.mem_cons_self
    have e : pairs (((b :: r).flatMap hxF).map vl) = (16 * vl (dgc (b.toNat / 16)) + vl (dgc (b.toNat % 16))) :: pairs ((r.flatMap hxF).map vl) := by
      rw [List.flatMap_cons]; rfl
    rw [e, ih fun d hd => h d (List.mem_cons_of_mem _ hd), vl_of (by omega), vl_of (by omega)]
    congr 1
    omega
/-! byte lists among values -/
def isB : D → Bool
  | .int i => decide (0 ≤ i) && decide (i ≤ 255)
  | _ => false
theorem wh_ok {d : D} (h : d.plain = true) : m_is_whole d = .ok (isI "int" (toD d) && !isI "bool" (toD d)) := by
  have pl : (toD d).plain = true := h
  unfold m_is_whole
  rw [Res.need_pos pl, Res.need_pos pl]
  simp only [Res.bind_ok]
  cases isI "int" (toD d) <;> rfl
theorem isB_in {d : D} (h : d.plain = true) : ((m_is_whole d).noexc).bind (fun b10 => cond b10 ((((Res.ok d)).bind D.asInt).bind fun (t9 : Int) => cond (decide ((0 : Int) ≤ t9)) (Res.ok (decide (t9 ≤ (255 : Int)))) (Res.ok false)) (Res.ok false)) = .ok (isB d) := by
  rw [wh_ok h]
  cases d with
  | int i =>
    show cond (decide ((0 : Int) ≤ i)) (Res.ok (decide (i ≤ (255 : Int)))) (Res.ok false) = Res.ok (decide (0 ≤ i) && decide (i ≤ 255))
    cases decide ((0 : Int) ≤ i) <;> rfl
  | obj a b c => cases h
  | ty n => cases h
  | ro x => cases h
  | _ => rfl
theorem isb_lst {xs : List D} (h : ∀ x ∈ xs, x.plain = true) (hl : xs.length ≤ 16777216) : m_is_bytes (.lst xs) = .ok (xs.all isB) := by
  unfold m_is_bytes
  rw [Res.need_pos (by rfl), Res.bind_ok, show isI "list" (toD (D.lst xs)) = true from rfl, cond_true, Res.bind_ok, show D.asList (.lst xs) = .ok xs from rfl, Res.bind_ok, Res.need_pos hl]
  rw [compL_map (g := isB) (fun _ _ => rfl) fun x hx => isB_in (h x hx)]
  simp only [Res.bind_ok]
  rw [List.all_map]; rfl
theorem isb_ints (xs : List Int) (hl : xs.length ≤ 16777216) : m_is_bytes (toD xs) = .ok (xs.all fun i => decide (0 ≤ i) && decide (i ≤ 255)) := by
  have := isb_lst (xs := xs.map D.int) (fun x hx => by obtain ⟨i, _, rfl⟩ := List.mem_map.mp hx; rfl) (by rw [List.length_map]; exact hl)
  rw [List.all_map] at this
  exact this
theorem isb_no {d : D} (h : d.plain = true) (hn : isI "list" (toD d) = false) : m_is_bytes d = .ok false := by
  unfold m_is_bytes
  rw [Res.need_pos (show (toD d).plain = true from h), hn]; rfl
theorem kinds_ok (c : Int) {ds : List Int} (h : B8s ds) (hl : ds.length ≤ 1000) : m_u_law_right_kinds c ds = .ok true := by
  have a0 : (ds.all fun i => decide (0 ≤ i) && decide (i ≤ 255)) = true := List.all_eq_true.mpr fun i hi => by rw [decide_eq_true (h i hi).1, decide_eq_true (h i hi).2]; rfl
  have a1 : ((ds ++ [256]).all fun i => decide (0 ≤ i) && decide (i ≤ 255)) = false := by rw [List.all_append, a0]; rfl
  have a2 : (([-1] ++ ds : List Int).all fun i => decide (0 ≤ i) && decide (i ≤ 255)) = false := rfl
  have iv : ∃ v, idx ([(toD ()), (toD ("ab" : Str)), (toD (7 : Int)), (toD (T2.mk (1 : Int) (2 : Int))), (toD ([true] : List Bool)), (toD ([(256 : Int)] : List Int)), (toD ([(-(1 : Int))] : List Int)), (toD ([([(1 : Int)] : List Int)] : List (List Int))), (toD (Dc.mk ((["a"] : List Str).zip ([(1 : Int)] : List Int)))), (toD ([(toD (3 : Int)), (toD ("x" : Str))] : List D))] : List D) ((Int.natAbs c : Int) % (10 : Int)) = .ok v ∧ m_is_bytes v = .ok false := by
    have h0 := Int.emod_nonneg (c.natAbs : Int) (show (10 : Int) ≠ 0 by decide)
    have h1 := Int.emod_lt_of_pos (c.natAbs : Int) (show (0 : Int) < 10 by decide)
    generalize (c.natAbs : Int) % 10 = i at *
    rcases (show i = 0 ∨ i = 1 ∨ i = 2 ∨ i = 3 ∨ i = 4 ∨ i = 5 ∨ i = 6 ∨ i = 7 ∨ i = 8 ∨ i = 9 by omega) with rfl | rfl | rfl | rfl | rfl | rfl | rfl | rfl | rfl | rfl
    · exact ⟨_, idx_nat (j := 0) rfl, isb_no rfl rfl⟩
    · exact ⟨_, idx_nat (j := 1) rfl, isb_no rfl rfl⟩
    · exact ⟨_, idx_nat (j := 2) rfl, isb_no rfl rfl⟩
    · exact ⟨_, idx_nat (j := 3) rfl, isb_no rfl rfl⟩
    · exact ⟨_, idx_nat (j := 4) rfl, isb_lst (xs := [.bl true]) (fun x hx => by cases List.mem_singleton.mp hx; rfl) (by show 1 ≤ 16777216; decide)⟩
    · exact ⟨_, idx_nat (j := 5) rfl, isb_lst (xs := [.int 256]) (fun x hx => by cases List.mem_singleton.mp hx; rfl) (by show 1 ≤ 16777216; decide)⟩
    · exact ⟨_, idx_nat (j := 6) rfl, isb_lst (xs := [.int (-1)]) (fun x hx => by cases List.mem_singleton.mp hx; rfl) (by show 1 ≤ 16777216; decide)⟩
    · exact ⟨_, idx_nat (j := 7) rfl, isb_lst (xs := [.lst [.int 1]]) (fun x hx => by cases List.mem_singleton.mp hx; rfl) (by show 1 ≤ 16777216; decide)⟩
    · exact ⟨_, idx_nat (j := 8) rfl, isb_no rfl rfl⟩
    · exact ⟨_, idx_nat (j := 9) rfl, isb_lst (xs := [.int 3, .str "x"]) (fun x hx => by
        rcases List.mem_cons.mp hx with rfl | hx
        · rfl
        · cases List.mem_singleton.mp hx; rfl) (by show 2 ≤ 16777216; decide)⟩
  obtain ⟨v, ev, fv⟩ := iv
  unfold m_u_law_right_kinds
  rw [Res.bind_ok, ev]
  simp only [Res.bind_ok]
  rw [fv, Res.bind_ok, decide_eq_true rfl, Bool.not_true, Res.bind_ok, cond_false, isb_ints ds (by omega), a0, Res.bind_ok, decide_eq_true rfl, Res.bind_ok, cond_true, Res.need_pos (by show ds.length + 1 ≤ 16777216; omega)]
  simp only [Res.bind_ok]
  rw [isb_ints _ (by rw [List.length_append]; show ds.length + 1 ≤ 16777216; omega), a1, Res.bind_ok, decide_eq_true rfl, Res.bind_ok, cond_true, Res.need_pos (by show 1 + ds.length ≤ 16777216; omega)]
  simp only [Res.bind_ok]
  rw [isb_ints _ (by rw [List.length_append]; show 1 + ds.length ≤ 16777216; omega), a2]
  rfl
/-! drawn texts -/
theorem signs_ex {el : Int → Res Str} {P : Nat → Prop} : ∀ row : List Int, (∀ x ∈ row, ∃ c, el x = .ok ⟨#[c]⟩ ∧ P c) → ∃ l : List Nat, compL (fun (_ : Int) => Res.ok true) el row = .ok (l.map fun c => (⟨#[c]⟩ : Str)) ∧ l.length = row.length ∧ ∀ c ∈ l, P c
  | [], _ => ⟨[], rfl, rfl, fun _ h => nomatch h⟩
  | x :: r, h => by
    obtain ⟨c, c1, c2⟩ := h x List.mem_cons_self
    obtain ⟨l, h1, h2, h3⟩ := signs_ex r fun y hy => h y (List.mem_cons_of_mem _ hy)
    refine ⟨c :: l, ?_, by rw [List.length_cons, List.length_cons, h2], fun z hz => ?_⟩
    · unfold compL
      rw [Res.bind_ok, cond_true, c1, h1]; rfl
    · rcases List.mem_cons.mp hz with rfl | hz
      · exact c2
      · exact h3 z hz
def tx (l : List Nat) : Str := Txt.join ("" : Str) (l.map fun c => (⟨#[c]⟩ : Str))
theorem tx_cds (l : List Nat) : cds (tx l) = l := by
  unfold tx
  rw [join_flat, List.flatMap_map]
  show l.flatMap (fun c => [c]) = l
  exact List.flatMap_singleton' l
theorem tx_sum (l : List Nat) : ((l.map fun c => (⟨#[c]⟩ : Str)).map (·.length)).sum = l.length := by
  rw [sum_len, ← join_flat]
  exact congrArg List.length (tx_cds l)
theorem val_q (x : Str) : (if (cds x).length % 2 = 1 then rF else if (cds x).all hx = true then (toD (pairs ((cds x).map vl)) : D) else rF).okq = true ∧ pyEq (if (cds x).length % 2 = 1 then rF else if (cds x).all hx = true then (toD (pairs ((cds x).map vl)) : D) else rF) (if (cds x).length % 2 = 1 then rF else if (cds x).all hx = true then (toD (pairs ((cds x).map vl)) : D) else rF) = true := by
  have q : rF.okq = true ∧ pyEq rF rF = true := by decide +kernel
  split
  · exact q
  · split
    · exact ⟨okq_ints _, pyEq_self (nob_ints _)⟩
    · exact q
def CH : Str := (" !\"#$&'()*+,-./0123456789:;<=>?@ABCDEFGHIJKLMNOPQRSTUVWXYZ[\\]^_" : Str) ++ ("`abcdefghijklmnopqrstuvwxyz{|}~" : Str)
theorem CH_ok : (cds CH).length = 94 ∧ (cds CH).all okc = true := by decide +kernel
theorem ch_eq : m_u_law_chars = .ok CH := by
  unfold m_u_law_chars
  rw [Res.bind_ok]
  exact Res.need_pos (by decide +kernel)
theorem pc_at {z : Int} (h0 : 0 ≤ z) (h1 : z < 2) : ∃ c, sidx ("\t\n" : Str) z = .ok ⟨#[c]⟩ ∧ okc c = false := by
  rcases (show z = 0 ∨ z = 1 by omega) with rfl | rfl
  · exact ⟨9, sidx_at (j := 0) (by decide +kernel) (by decide +kernel), by decide⟩
  · exact ⟨10, sidx_at (j := 1) (by decide +kernel) (by decide +kernel), by decide⟩
theorem k2_ok (ns : Ro Int) {data other : List Int} (hd : B8s data) (ld : data.length ≤ 1000) (ho : B8s other) (lo : other.length ≤ 1000) (text : Str) {signs : Str} (s0 : 0 < (cds signs).length) (s1 : (cds signs).length ≤ 1000) : m_law_k2 ns data text other signs = .ok true := by
  obtain ⟨c4, d4⟩ := cell_ex ns (show (0 : Int) ≤ 4 by decide)
  obtain ⟨c5, d5⟩ := cell_ex ns (show (0 : Int) ≤ 5 by decide)
  obtain ⟨c6, d6⟩ := cell_ex ns (show (0 : Int) ≤ 6 by decide)
  have ln : signs.length = (cds signs).length := rfl
  obtain ⟨l, e1, l1, _⟩ := signs_ex (P := fun _ => True) (el := fun (x117 : Int) => ((Res.need ((signs).length ≤ 16777216) (Res.ok ((signs).length : Int))).bind fun (t118 : Int) => Res.need (0 < t118) (Res.ok (x117 % t118))).bind fun (t119 : Int) => sidx signs t119) other (fun x hx => by
    have p : (0 : Int) < ((cds signs).length : Int) := by omega
    have a0 := Int.emod_nonneg x (Int.ne_of_gt p)
    have a1 := Int.emod_lt_of_pos x p
    obtain ⟨j, hj⟩ := Int.eq_ofNat_of_zero_le a0
    have hjl : j < (cds signs).length := by omega
    refine ⟨(cds signs)[j], ?_, trivial⟩
    rw [Res.need_pos (by rw [ln]; omega), ln, Res.bind_ok, Res.need_pos p, Res.bind_ok, hj]
    exact sidx_at (List.getElem?_eq_getElem hjl) (by omega))
  obtain ⟨m, e2, l2, okm⟩ := signs_ex (P := fun c => okc c = true) (el := fun (x124 : Int) => ((m_u_law_chars ).noexc).bind fun (t125 : Str) => sidx t125 (x124 % (94 : Int))) other (fun x hx => by
    obtain ⟨j, hj⟩ := Int.eq_ofNat_of_zero_le (show 0 ≤ x % 94 by omega)
    have hjl : j < (cds CH).length := by rw [CH_ok.1]; omega
    refine ⟨(cds CH)[j], ?_, List.all_eq_true.mp CH_ok.2 _ (List.getElem_mem _)⟩
    rw [ch_eq]
    show sidx CH (x % 94) = _
    rw [hj]
    exact sidx_at (List.getElem?_eq_getElem hjl) (by rw [CH_ok.1]; decide))
  have cl := tx_cds l
  have cm := tx_cds m
  have am : (cds (tx m)).all okc = true := by rw [cm]; exact List.all_eq_true.mpr okm
  have lm : (tx m).length = m.length := congrArg List.length cm
  have tq := val_q (tx l)
  obtain ⟨z0, z1⟩ := tq
  have pz : (0 : Int) < (m.length : Int) + 1 := by omega
  obtain ⟨pc, ep, fp⟩ := pc_at (z := (c4.natAbs : Int) / 2 % 2) (by omega) (by omega)
  have cutl : ∀ a b, (cds (cutS (tx m) a b)).length ≤ 1000 := fun a b => by
    have := cutS_length (tx m) a b
    rw [lm] at this
    show (cutS (tx m) a b).length ≤ 1000
    omega
  have emp : ("" : Str).length = 0 := rfl
  unfold m_law_k2
  rw [Res.bind_ok, Res.need_pos (by omega), e1, Res.bind_ok, Res.need_pos (by rw [tx_sum, emp]; omega), Res.bind_ok]
  rw [show Txt.join ("" : Str) (l.map fun c => (⟨#[c]⟩ : Str)) = tx l from rfl]
  rw [told0 _ (by rw [cl]; omega), due_ok _ (by rw [cl]; omega), Res.bind_ok, Res.bind_ok, Res.need_pos ⟨z0, z0⟩, Res.bind_ok]
  rw [show (toD (if (cds (tx l)).length % 2 = 1 then rF else if (cds (tx l)).all hx = true then (toD (pairs ((cds (tx l)).map vl)) : D) else rF) : D) = (if (cds (tx l)).length % 2 = 1 then rF else if (cds (tx l)).all hx = true then (toD (pairs ((cds (tx l)).map vl)) : D) else rF) from rfl, z1, Bool.not_true, cond_false]
  rw [Res.bind_ok, Res.need_pos (by omega), e2, Res.bind_ok, Res.need_pos (by rw [tx_sum, emp]; omega), Res.bind_ok, Res.bind_ok]
  show ((Res.need ((chars (tx m)).length ≤ 16777216) (compL (fun (_ : Str) => Res.ok true) _ (chars (tx m)))).bind _) = _
  rw [Res.need_pos (by rw [chars_ln, cm]; omega), chars_codes, Res.bind_ok]
  show ((m_u_law_told (tx m) 1).bind _).bind _ = _
  have oq : (toD (toD (iw (cds (tx m))) : D)).okq = true := okq_ints _
  have eqq : pyEq (toD (toD (iw (cds (tx m))) : D)) (toD (iw (cds (tx m)))) = true := pyEq_self (nob_ints _)
  rw [told1_ok am (by rw [cm]; omega), Res.bind_ok, Res.need_pos ⟨oq, okq_ints _⟩, Res.bind_ok, eqq, Bool.not_true, cond_false, d5, d4]
  simp only [Res.bind_ok]
  rw [show Txt.join ("" : Str) (m.map fun c => (⟨#[c]⟩ : Str)) = tx m from rfl]
  rw [Res.need_pos (by rw [lm]; omega), Res.bind_ok, lm, Res.bind_ok, Res.need_pos pz, Res.bind_ok]
  generalize (c5.natAbs : Int) % ((m.length : Int) + 1) = at_
  rw [show m_u_law_percent = .ok ("\t\n" : Str) from rfl]
  rw [Res.need_pos (by omega), Res.need_pos (by omega)]
  simp only [Res.bind_ok]
  rw [ep, Res.bind_ok]
  generalize hA : cutS (tx m) none (some at_) = A
  generalize hB : cutS (tx m) (some at_) none = B
  have la : (cds A).length ≤ 1000 := by rw [← hA]; exact cutl _ _
  have lb : (cds B).length ≤ 1000 := by rw [← hB]; exact cutl _ _
  have cb : cds (A ++ ⟨#[pc]⟩ ++ B) = cds A ++ [pc] ++ cds B := by rw [cds_app, cds_app]; rfl
  have no : (cds (A ++ ⟨#[pc]⟩ ++ B)).all okc = false := by
    rw [cb, List.all_append, List.all_append]
    show ((cds A).all okc && (okc pc && true) && (cds B).all okc) = false
    rw [fp, Bool.false_and, Bool.and_false, Bool.false_and]
  have lt : (cds (A ++ ⟨#[pc]⟩ ++ B)).length ≤ 10000 := by
    rw [cb, List.length_append, List.length_append]
    show _ + 1 + _ ≤ _
    omega
  have l1 : (A ++ (⟨#[pc]⟩ : Str)).length = (cds A).length + 1 := by
    show (cds (A ++ ⟨#[pc]⟩)).length = _
    rw [cds_app, List.length_append]; rfl
  have rq : (toD rF).okq = true ∧ (toD (T2.mk ("refused" : Str) ("malformed" : Str))).okq = true ∧ pyEq (toD rF) (toD (T2.mk ("refused" : Str) ("malformed" : Str))) = true := by decide +kernel
  rw [Res.need_pos (by show (cds A).length + 1 ≤ _; omega), Res.bind_ok, Res.need_pos (by rw [l1]; show _ + (cds B).length ≤ _; omega), Res.bind_ok, told1_f no lt, Res.bind_ok, Res.need_pos ⟨rq.1, rq.2.1⟩, Res.bind_ok, rq.2.2, Bool.not_true, cond_false, d6]
  simp only [Res.bind_ok]
  exact kinds_ok c6 hd ld
theorem law_true (ns : Ro Int) (_ : ns.xs.length ≤ 63) (_ : ∀ i ∈ ns.xs, Builtin.Int.intBits i ≤ 1048576) : m_law ns = .ok true := by
  obtain ⟨c0, d0⟩ := cell_ex ns (show (0 : Int) ≤ 0 by decide)
  obtain ⟨c1, d1⟩ := cell_ex ns (show (0 : Int) ≤ 1 by decide)
  obtain ⟨c2, d2⟩ := cell_ex ns (show (0 : Int) ≤ 2 by decide)
  obtain ⟨c3, d3⟩ := cell_ex ns (show (0 : Int) ≤ 3 by decide)
  obtain ⟨c4, d4⟩ := cell_ex ns (show (0 : Int) ≤ 4 by decide)
  obtain ⟨n, hn⟩ := Int.eq_ofNat_of_zero_le (show 0 ≤ (c1.natAbs : Int) % 41 by omega)
  obtain ⟨m, hm⟩ := Int.eq_ofNat_of_zero_le (show 0 ≤ (c3.natAbs : Int) % 31 by omega)
  obtain ⟨ds, eb, bd, ldd⟩ := by_ok c0 1 (n := n) (by omega)
  obtain ⟨os, eo, bo, loo⟩ := by_ok c2 2 (n := m) (by omega)
  have sl : ((ds.map fun b => hex2 b.toNat).map (·.length)).sum = 2 * ds.length := by
    rw [sum_len, ← join_flat]
    exact dgs_len ds
  have emp : ("" : Str).length = 0 := rfl
  have DL : (cds k_DIGITS).length = 16 := by decide +kernel
  unfold m_law
  rw [d0, d1]
  simp only [Res.bind_ok]
  rw [hn, eb, Res.bind_ok, todig_ok bd (by omega), Res.bind_ok, Res.need_pos (by omega), compL_map (g := fun b => hex2 b.toNat) (fun _ _ => rfl) (fun x hx => two_at (bd x hx).1 (bd x hx).2), Res.bind_ok, Res.need_pos (by rw [sl, emp]; omega), Res.bind_ok]
  rw [Res.need_pos (by rfl), Res.bind_ok, show isI "str" (toD (dgs ds)) = true from rfl, Bool.not_true, Res.bind_ok, cond_false]
  rw [show (dgs ds == Txt.join ("" : Str) (ds.map fun b => hex2 b.toNat)) = true from beq_self_eq_true _, Bool.not_true, cond_false, Res.need_pos ⟨okq_ints _, okq_ints _⟩, Res.bind_ok, pyEq_ints, decide_eq_true rfl, Bool.not_true]
  simp only [Res.bind_ok, cond_false]
  rw [back_ok bd (by omega), Res.bind_ok, Res.need_pos ⟨okq_ints _, okq_ints _⟩, pyEq_ints, decide_eq_true rfl, Bool.not_true]
  simp only [Res.bind_ok, cond_false]
  rw [d2, d3]
  simp only [Res.bind_ok]
  rw [hm, eo, Res.bind_ok, show m_u_law_digits = .ok k_DIGITS from rfl, Res.bind_ok, Res.need_pos (by decide +kernel), Res.bind_ok, d4]
  simp only [Res.bind_ok]
  cases decide ((c4.natAbs : Int) % 2 = 1) with
  | true => rw [cond_true]; exact k2_ok ns bd (by omega) bo (by omega) _ (by rw [DL]; decide) (by rw [DL]; decide)
  | false => rw [cond_false]; exact k2_ok ns bd (by omega) bo (by omega) _ (by decide +kernel) (by decide +kernel)
end Mi
open PySem PySem.W PySem.Calls PyProof.Rows
theorem PySem.Challenge.cw_curveseal_k01_digits_and_codes_holds : PySem.Challenge.rw_curveseal_k01_digits_and_codes.Holds := by
  w_on; o_law
  refine Mi.head_pieces (r := OpenLaw.row PySem.Challenge.rw_curveseal_k01_digits_and_codes) (q := view (OpenLaw.row PySem.Challenge.rw_curveseal_k01_digits_and_codes).prog [24]) (H := Mi.hk) (ob := Mi.ob) (N := 20000000) (k := Mi.fuelQ) (x := Mi.S_x) (s' := Mi.S_f) (loose := (["is_whole", "to_digits", "from_digits", "_digit", "is_bytes", "ascii_codes", "_law_cell", "_law_is_integer", "_law_bytes", "_law_is_bytes", "_law_digits", "_law_percent", "_law_chars", "_law_told", "_law_due", "_law_right_kinds", "CurveError", "OutOfRange", "Malformed", "DIGITS", "PERCENT"] : List Str)) (d := HandSHeadRun.topDef (OpenLaw.row PySem.Challenge.rw_curveseal_k01_digits_and_codes).prog 24) (kwd := []) Mi.ob_eq (by kernel_rfl) Mi.runw_ Mi.lk1_ Mi.lk2_ Mi.lk3_ (by kernel_rfl) (by kernel_rfl) (by kernel_rfl) (by rfl) (by first | assumption | decide +kernel) (by decide +kernel) ⟨rfl, rfl, rfl, rfl, rfl, by decide +kernel⟩ ?hw ?hc
  case hw => w_witness2
  case hc =>
    refine Mi.walk_end (l := PySem.Challenge.rw_curveseal_k01_digits_and_codes) (n := 63) (k := 4) (x := "script") (m := Mi.m_law) rfl (by decide) (by kernel_rfl) ⟨rfl, by decide, by decide⟩ ?F (fun ns h1 h2 => Mi.law_true ⟨ns⟩ h1 h2)
    intro w mg fa h Y G hmg0
    obtain ⟨K, KX, c⟩ := Y
    have hmg : mg ("law" : PySem.Str) = some (.ref fa) := by
      have e : (HandSHeadRun.topDef (OpenLaw.row PySem.Challenge.rw_curveseal_k01_digits_and_codes).prog 24).name = ("law" : PySem.Str) := by kernel_rfl
      rw [← e]
      exact hmg0
    have T := Mi.facts_of KX G c
    have ea := hmg.symm.trans T.g_law
    cases ea
    obtain ⟨fd, FL⟩ := T.d_law
    have b := L2.FunD.bindsA (ps := ["script"]) FL fun _ _ _ _ _ _ us hl => match us, hl with | [_], _ => rfl
    exact ⟨K, fd, KX, fun s u => b s [u] rfl, fun base _ _ => Mi.ok_law T FL⟩
