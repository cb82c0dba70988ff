import PyProof.Rows.All
import Wide.All
import OpenK.AllK
import Wide.FinOn
import HandS.Base
import HandS.Call
import HandS.List
import HandS.Comp
import HandS.Ends
import HandS.Exc
import HandS.ExcOwn
import HandS.TryOnly
import HandS.ExcIs
import HandS.IsInst
import HandS.FStr
import HandS.RaiseMore
import HandS.Words
import HandS.WordsList
import HandS.WordsExc
import HandS.WideBits
import HandS.Iter
import HandS.Text
import HandS.Evl
import HandS.Head0
import HandS.Head1
import HandS.Head2
import HandS.HeadEnd
import HandS.HeadHook1
import HandS.HeadHook2
import HandS.HeadHook4
import HandS.EndBits
import HandS.Style
import KE.KSuper
import HandS.More
import HandS.Head3
import Wide.Once
import HandS.TryMany
import HandS.Rev
import HandS.RevTup
import PyProof.ListNew
import HandS.Defaults
import HandS.CallSlots
import HandS.MakeKwOnly
import KE.DatumOrd
import HandS.Conv
import HandS.Dict
import KE.KMathG
import HandS.Struct
import HandS.Zip
import KE.GoesMore
import KE.GoesRaise
import PySem.Challenge.RW_curveseal_k30_lengths_and_numbers
set_option Elab.async false
set_option linter.all false
set_option maxRecDepth 100000
set_option autoImplicit false
set_option maxHeartbeats 4000000
set_option maxHeartbeats 1000000
namespace Mi
open PySem PySem.Spec L2
open Evl (Ex)

/-! ### data -/
inductive D where
  | non | bl (b : Bool) | int (i : Int) | str (s : Str) | ty (n : String)
  | tup (xs : List D) | lst (xs : List D) | obj (c : Str) (ks : List Str) (ds : List D) | ro (xs : List D) | dct (ks : List Str) (ds : List D)

class ToD (α : Type) where
  d : α → D
abbrev toD {α : Type} [ToD α] (x : α) : D := ToD.d x
instance : ToD D := ⟨fun x => x⟩
instance : ToD Int := ⟨D.int⟩
instance : ToD Bool := ⟨D.bl⟩
instance : ToD Unit := ⟨fun _ => .non⟩
instance : ToD Str := ⟨D.str⟩
instance {α : Type} [ToD α] : ToD (List α) := ⟨fun xs => .lst (xs.map ToD.d)⟩
instance {α : Type} [ToD α] : ToD (Option α) := ⟨fun o => match o with | none => .non | some x => ToD.d x⟩
structure T1 (α : Type) where
  a : α
structure T2 (α β : Type) where
  a : α
  b : β
structure T3 (α β γ : Type) where
  a : α
  b : β
  c : γ
structure T4 (α β γ δ : Type) where
  a : α
  b : β
  c : γ
  e : δ
structure Ro (α : Type) where
  xs : List α
structure Tu (α : Type) where
  xs : List α
instance {α : Type} [ToD α] : ToD (T1 α) := ⟨fun x => .tup [ToD.d x.a]⟩
instance {α β : Type} [ToD α] [ToD β] : ToD (T2 α β) := ⟨fun x => .tup [ToD.d x.a, ToD.d x.b]⟩
instance {α β γ : Type} [ToD α] [ToD β] [ToD γ] : ToD (T3 α β γ) := ⟨fun x => .tup [ToD.d x.a, ToD.d x.b, ToD.d x.c]⟩
instance {α β γ δ : Type} [ToD α] [ToD β] [ToD γ] [ToD δ] : ToD (T4 α β γ δ) := ⟨fun x => .tup [ToD.d x.a, ToD.d x.b, ToD.d x.c, ToD.d x.e]⟩
instance {α : Type} [ToD α] : ToD (Ro α) := ⟨fun x => .ro (x.xs.map ToD.d)⟩
instance {α : Type} [ToD α] : ToD (Tu α) := ⟨fun x => .tup (x.xs.map ToD.d)⟩

mutual
def Rep (K : PySem.W.Frag) (F : Hp) : D → V → Prop
  | .non, v => v = .non
  | .bl b, v => v = .bl b
  | .int i, v => v = .int i
  | .str s, v => v = .str s
  | .ty n, v => v = .ty n
  | .tup ds, v => ∃ a vs, v = .ref a ∧ SqT K F a vs ∧ Reps K F ds vs
  | .lst ds, v => ∃ a vs, v = .ref a ∧ F a = some (.lst vs) ∧ Reps K F ds vs
  | .obj c ks ds, v => ∃ a dx vs, v = .ref a ∧ F a = some (.ins (He.ga K c) dx (ks.zip vs)) ∧ ks.length = vs.length ∧ Reps K F ds vs
  | .ro ds, v => ∃ a vs, v = .ref a ∧ SqL K F a vs ∧ Reps K F ds vs
  | .dct ks ds, v => ∃ a vs, v = .ref a ∧ F a = some (.dK ((ks.map Sum.inr).zip vs)) ∧ ks.length = vs.length ∧ Reps K F ds vs ∧ ks.Nodup
def Reps (K : PySem.W.Frag) (F : Hp) : List D → List V → Prop
  | [], vs => vs = []
  | d :: ds, vs => ∃ v r, vs = v :: r ∧ Rep K F d v ∧ Reps K F ds r
end

theorem sq_ex {K : PySem.W.Frag} {F H : Hp} {a : Addr} {xs : List V} (e : Ex F H) (h : F a = some (.lst xs)) : SqL K H a xs := Or.inl (Or.inl (e _ _ h))
mutual
theorem Rep.mono {K : PySem.W.Frag} {F F' : Hp} (e : Ex F F') : ∀ (d : D) (v : V), Rep K F d v → Rep K F' d v
  | .non, v, h => h
  | .bl b, v, h => h
  | .int i, v, h => h
  | .str s, v, h => h
  | .ty n, v, h => h
  | .tup ds, v, h => by
    obtain ⟨a, vs, h1, h2, h3⟩ := h
    exact ⟨a, vs, h1, Evl.ex_t e h2, Reps.mono e ds vs h3⟩
  | .lst ds, v, h => by
    obtain ⟨a, vs, h1, h2, h3⟩ := h
    exact ⟨a, vs, h1, e _ _ h2, Reps.mono e ds vs h3⟩
  | .obj c ks ds, v, h => by
    obtain ⟨a, dx, vs, h1, h2, h3, h4⟩ := h
    exact ⟨a, dx, vs, h1, e _ _ h2, h3, Reps.mono e ds vs h4⟩
  | .ro ds, v, h => by
    obtain ⟨a, vs, h1, h2, h3⟩ := h
    exact ⟨a, vs, h1, Evl.ex_l e h2, Reps.mono e ds vs h3⟩
  | .dct ks ds, v, h => by
    obtain ⟨a, vs, h1, h2, h3, h4, h5⟩ := h
    exact ⟨a, vs, h1, e _ _ h2, h3, Reps.mono e ds vs h4, h5⟩
theorem Reps.mono {K : PySem.W.Frag} {F F' : Hp} (e : Ex F F') : ∀ (ds : List D) (vs : List V), Reps K F ds vs → Reps K F' ds vs
  | [], vs, h => h
  | d :: ds, vs, h => by
    obtain ⟨v, r, h1, h2, h3⟩ := h
    exact ⟨v, r, h1, Rep.mono e d v h2, Reps.mono e ds r h3⟩
end
section
variable {K : PySem.W.Frag} {F F' H H' H1 : Hp}
theorem Reps.length : ∀ {ds : List D} {vs : List V}, Reps K F ds vs → ds.length = vs.length
  | [], vs, h => by rw [show vs = [] from h]; rfl
  | d :: ds, vs, h => by
    obtain ⟨v, r, rfl, _, h3⟩ := h
    simp [Reps.length h3]
theorem Reps.get : ∀ {ds : List D} {vs : List V} {i : Nat} {e : D}, Reps K F ds vs → ds[i]? = some e → ∃ v, vs[i]? = some v ∧ Rep K F e v
  | [], vs, i, e, h, q => by simp at q
  | d :: ds, vs, 0, e, h, q => by
    obtain ⟨v, r, rfl, h2, h3⟩ := h
    simp at q; subst q
    exact ⟨v, rfl, h2⟩
  | d :: ds, vs, i + 1, e, h, q => by
    obtain ⟨v, r, rfl, h2, h3⟩ := h
    simp at q
    obtain ⟨w, a, b⟩ := Reps.get h3 q
    exact ⟨w, by simpa using a, b⟩
theorem Reps.append : ∀ {ds es : List D} {vs ws : List V}, Reps K F ds vs → Reps K F es ws → Reps K F (ds ++ es) (vs ++ ws)
  | [], es, vs, ws, h, q => by rw [show vs = [] from h]; exact q
  | d :: ds, es, vs, ws, h, q => by
    obtain ⟨v, r, rfl, h2, h3⟩ := h
    exact ⟨v, r ++ ws, rfl, h2, Reps.append h3 q⟩
theorem Reps.one {e : D} {v : V} (h : Rep K F e v) : Reps K F [e] [v] := ⟨v, [], rfl, h, rfl⟩
theorem Reps.set : ∀ {ds : List D} {vs : List V} (i : Nat) {e : D} {v : V}, Reps K F ds vs → Rep K F e v → Reps K F (ds.set i e) (vs.set i v)
  | [], vs, i, e, v, h, q => by rw [show vs = [] from h]; exact rfl
  | d :: ds, vs, 0, e, v, h, q => by
    obtain ⟨w, r, rfl, h2, h3⟩ := h
    exact ⟨v, r, rfl, q, h3⟩
  | d :: ds, vs, i + 1, e, v, h, q => by
    obtain ⟨w, r, rfl, h2, h3⟩ := h
    exact ⟨w, r.set i v, rfl, h2, Reps.set i h3 q⟩
theorem Reps.drop : ∀ {ds : List D} {vs : List V} (i : Nat), Reps K F ds vs → Reps K F (ds.drop i) (vs.drop i)
  | [], vs, i, h => by rw [show vs = [] from h]; simp [Reps]
  | d :: ds, vs, 0, h => h
  | d :: ds, vs, i + 1, h => by
    obtain ⟨w, r, rfl, h2, h3⟩ := h
    exact Reps.drop i h3
theorem Reps.take : ∀ {ds : List D} {vs : List V} (i : Nat), Reps K F ds vs → Reps K F (ds.take i) (vs.take i)
  | [], vs, i, h => by rw [show vs = [] from h]; simp [Reps]
  | d :: ds, vs, 0, h => by simp [Reps]
  | d :: ds, vs, i + 1, h => by
    obtain ⟨w, r, rfl, h2, h3⟩ := h
    exact ⟨w, r.take i, rfl, h2, Reps.take i h3⟩
theorem Reps.reverse : ∀ {ds : List D} {vs : List V}, Reps K F ds vs → Reps K F ds.reverse vs.reverse
  | [], vs, h => by rw [show vs = [] from h]; simp [Reps]
  | d :: ds, vs, h => by
    obtain ⟨w, r, rfl, h2, h3⟩ := h
    rw [List.reverse_cons, List.reverse_cons]
    exact Reps.append (Reps.reverse h3) (Reps.one h2)
theorem Reps.ints : ∀ {ns : List Int} {vs : List V}, Reps K F (ns.map D.int) vs → vs = ns.map V.int
  | [], vs, h => h
  | n :: ns, vs, h => by
    obtain ⟨w, r, rfl, h2, h3⟩ := h
    rw [show w = V.int n from h2, Reps.ints h3]; rfl
theorem Reps.of_ints : ∀ (ns : List Int), Reps K F (ns.map D.int) (ns.map V.int)
  | [] => rfl
  | n :: ns => ⟨_, _, rfl, rfl, Reps.of_ints ns⟩
theorem Reps.bls : ∀ {ns : List Bool} {vs : List V}, Reps K F (ns.map D.bl) vs → vs = ns.map V.bl
  | [], vs, h => h
  | n :: ns, vs, h => by
    obtain ⟨w, r, rfl, h2, h3⟩ := h
    rw [show w = V.bl n from h2, Reps.bls h3]; rfl
/-! ### how the heap goes on -/
structure Adv (F H F' H' : Hp) : Prop where
  f : Ex F F'
  h : Ex H H'
  in_ : Ex F' H'
  out : ∀ p, F p = none → H p ≠ none → F' p = none
theorem Adv.refl (e : Ex F H) : Adv F H F H := ⟨Ex.refl F, Ex.refl H, e, fun _ h _ => h⟩
theorem Adv.trans {F1 H1 F2 H2 F3 H3 : Hp} (a : Adv F1 H1 F2 H2) (b : Adv F2 H2 F3 H3) : Adv F1 H1 F3 H3 :=
  ⟨a.f.trans b.f, a.h.trans b.h, b.in_, fun p h1 h2 => b.out p (a.out p h1 h2) fun z => h2 (Evl.fresh_back a.h z)⟩
theorem none_of_ex (e : Ex F H) {p : Addr} (h : H p = none) : F p = none := Evl.fresh_back e h
theorem Adv.new {p : Addr} {o : HO} (e : Ex F H) (h : H p = none) : Adv F H (upd F p o) (upd H p o) := by
  refine ⟨Ex.new (none_of_ex e h), Ex.new h, fun a u q => ?_, fun q h1 h2 => ?_⟩
  · by_cases z : a = p
    · subst z; rw [upd_same] at q ⊢; exact q
    · rw [upd_ne z] at q ⊢; exact e a u q
  · have z : q ≠ p := fun z => h2 (by rw [z]; exact h)
    rw [upd_ne z]; exact h1
/-- a new object, not frozen -/
theorem Adv.newO {p : Addr} {o : HO} (e : Ex F H) (h : H p = none) : Adv F H F (upd H p o) :=
  ⟨Ex.refl F, Ex.new h, fun a u q => (Ex.new h) a u (e a u q), fun _ h1 _ => h1⟩
end

/-! ### what a def gives -/
inductive Res (α : Type) where
  | ok (x : α) | exc (c : Str) | stuck
namespace Res
def bind {α β : Type} : Res α → (α → Res β) → Res β
  | .ok x, f => f x
  | .exc c, _ => .exc c
  | .stuck, _ => .stuck
theorem bind_ok {α β : Type} (x : α) (f : α → Res β) : (Res.ok x).bind f = f x := rfl
theorem bind_pure {α : Type} (m : Res α) : m.bind Res.ok = m := by cases m <;> rfl
/-- a condition that must hold -/
@[irreducible] noncomputable def need {α : Type} (p : Prop) (m : Res α) : Res α := @ite _ p (Classical.propDecidable p) m .stuck
theorem need_pos {α : Type} {p : Prop} {m : Res α} (h : p) : need p m = m := by unfold need; exact if_pos h
theorem need_neg {α : Type} {p : Prop} {m : Res α} (h : ¬ p) : need p m = .stuck := by unfold need; exact if_neg h
def map {α β : Type} (f : α → β) (m : Res α) : Res β := m.bind fun x => .ok (f x)
end Res

/-! ### slots -/
inductive Sk where
  | im (e : D) | ow (xs : List D) | raw (v : V) | oi (p : Option Addr) (c : Str) (ks : List Str) (ds : List D)
/-- what only this frame knows -/
def Sk.own : Sk → Bool
  | .ow _ => true
  | .oi _ _ _ _ => true
  | _ => false
abbrev En := List (Option Sk)
def SkOk (K : PySem.W.Frag) (H0 F H : Hp) : Sk → V → Prop
  | .im e, v => Rep K F e v
  | .ow xs, v => ∃ p vs, v = .ref p ∧ H0 p = none ∧ F p = none ∧ H p = some (.lst vs) ∧ Reps K F xs vs
  | .raw w, v => v = w
  | .oi pp c ks ds, v => ∃ p dx vs, v = .ref p ∧ H0 p = none ∧ F p = none ∧ H p = some (.ins (He.ga K c) dx (ks.zip vs)) ∧ ks.length = vs.length ∧ Reps K F ds vs ∧ ∀ a, pp = some a → p = a
structure Sl (K : PySem.W.Frag) (F0 H0 F H : Hp) (σ : L2.St) (env : En) : Prop where
  adv : Adv F0 H0 F H
  slot : ∀ (i : Nat) (sk : Sk), env[i]? = some (some sk) → ∃ v, σ[i]? = some (some v) ∧ SkOk K H0 F H sk v
  dis : ∀ (i j : Nat) (sk sk' : Sk) (p : Addr), i ≠ j → env[i]? = some (some sk) → env[j]? = some (some sk') → sk.own = true → sk'.own = true → σ[i]? = some (some (.ref p)) → σ[j]? ≠ some (some (.ref p))
  len : σ.length = env.length
section
variable {K : PySem.W.Frag} {F0 H0 F H F' H' : Hp} {σ : L2.St} {env : En}
theorem Sl.ex (S : Sl K F0 H0 F H σ env) : Ex F H := S.adv.in_
theorem SkOk.adv {sk : Sk} {v : V} (a : Adv F H F' H') (h : SkOk K H0 F H sk v) : SkOk K H0 F' H' sk v := by
  cases sk with
  | im e => exact Rep.mono a.f _ _ h
  | ow xs =>
    obtain ⟨p, vs, e1, e2, e3, e4, e5⟩ := h
    exact ⟨p, vs, e1, e2, a.out p e3 (by rw [e4]; simp), a.h _ _ e4, Reps.mono a.f _ _ e5⟩
  | raw w => exact h
  | oi pp c ks ds =>
    obtain ⟨p, dx, vs, e1, e2, e3, e4, e5, e6, e7⟩ := h
    exact ⟨p, dx, vs, e1, e2, a.out p e3 (by rw [e4]; simp), a.h _ _ e4, e5, Reps.mono a.f _ _ e6, e7⟩
theorem SkOk.at {sk : Sk} {v : V} (ho : sk.own = true) (h : SkOk K H0 F H sk v) : ∃ p o, v = .ref p ∧ H0 p = none ∧ F p = none ∧ H p = some o := by
  cases sk with
  | im e => cases ho
  | raw w => cases ho
  | ow xs =>
    obtain ⟨p, vs, e1, e2, e3, e4, e5⟩ := h
    exact ⟨p, _, e1, e2, e3, e4⟩
  | oi pp c ks ds =>
    obtain ⟨p, dx, vs, e1, e2, e3, e4, e5, e6, e7⟩ := h
    exact ⟨p, _, e1, e2, e3, e4⟩
theorem SkOk.updH {sk : Sk} {v : V} {p : Addr} {o : HO} (hn : sk.own = true → v ≠ .ref p) (h : SkOk K H0 F H sk v) : SkOk K H0 F (upd H p o) sk v := by
  cases sk with
  | im e => exact h
  | raw w => exact h
  | ow xs =>
    obtain ⟨q, vs, e1, e2, e3, e4, e5⟩ := h
    have hne : q ≠ p := fun z => hn rfl (by rw [e1, z])
    exact ⟨q, vs, e1, e2, e3, by rw [upd_ne hne]; exact e4, e5⟩
  | oi pp c ks ds =>
    obtain ⟨q, dx, vs, e1, e2, e3, e4, e5, e6, e7⟩ := h
    have hne : q ≠ p := fun z => hn rfl (by rw [e1, z])
    exact ⟨q, dx, vs, e1, e2, e3, by rw [upd_ne hne]; exact e4, e5, e6, e7⟩
theorem SkOk.updF {sk : Sk} {v : V} {p : Addr} {o : HO} (hf : F p = none) (hn : sk.own = true → v ≠ .ref p) (h : SkOk K H0 F H sk v) : SkOk K H0 (upd F p o) H sk v := by
  have ad : Ex F (upd F p o) := Ex.new hf
  cases sk with
  | im e => exact Rep.mono ad _ _ h
  | raw w => exact h
  | ow xs =>
    obtain ⟨q, vs, e1, e2, e3, e4, e5⟩ := h
    have hne : q ≠ p := fun z => hn rfl (by rw [e1, z])
    exact ⟨q, vs, e1, e2, by rw [upd_ne hne]; exact e3, e4, Reps.mono ad _ _ e5⟩
  | oi pp c ks ds =>
    obtain ⟨q, dx, vs, e1, e2, e3, e4, e5, e6, e7⟩ := h
    have hne : q ≠ p := fun z => hn rfl (by rw [e1, z])
    exact ⟨q, dx, vs, e1, e2, by rw [upd_ne hne]; exact e3, e4, e5, Reps.mono ad _ _ e6, e7⟩
theorem Sl.step (S : Sl K F0 H0 F H σ env) (a : Adv F H F' H') : Sl K F0 H0 F' H' σ env := by
  refine ⟨S.adv.trans a, fun i sk e => ?_, S.dis, S.len⟩
  obtain ⟨v, h1, h2⟩ := S.slot i sk e
  exact ⟨v, h1, h2.adv a⟩
theorem set_get {α : Type} {l : List α} {i j : Nat} {x y : α} (h : (l.set i x)[j]? = some y) : (i = j ∧ x = y) ∨ (i ≠ j ∧ l[j]? = some y) := by
  rw [List.getElem?_set] at h
  by_cases e : i = j
  · rw [if_pos e] at h
    split at h
    · exact .inl ⟨e, Option.some.inj h⟩
    · cases h
  · rw [if_neg e] at h
    exact .inr ⟨e, h⟩
theorem set_len {α : Type} {l : List α} {i : Nat} {x y : α} (h : (l.set i x)[i]? = some y) : i < l.length := by
  have h := (List.getElem?_eq_some_iff.mp h).1
  rwa [List.length_set] at h
theorem Sl.setIm (S : Sl K F0 H0 F H σ env) {i : Nat} {e : D} {v : V} (r : Rep K F e v) : Sl K F0 H0 F H (σ.set i (some v)) (env.set i (some (.im e))) := by
  refine ⟨S.adv, fun j sk q => ?_, fun j k sk sk' p hjk e1 e2 o1 o2 h1 => ?_, by rw [List.length_set, List.length_set]; exact S.len⟩
  · rcases set_get q with ⟨rfl, z⟩ | ⟨z, q⟩
    · cases z
      refine ⟨v, ?_, r⟩
      have hi : i < env.length := set_len q
      rw [List.getElem?_set_self (by rw [S.len]; exact hi)]
    · obtain ⟨w, h1, h2⟩ := S.slot j sk q
      exact ⟨w, by rw [List.getElem?_set_ne z]; exact h1, h2⟩
  · rcases set_get e1 with ⟨_, z⟩ | ⟨z1, e1⟩
    · cases z; cases o1
    rcases set_get e2 with ⟨_, z⟩ | ⟨z2, e2⟩
    · cases z; cases o2
    rw [List.getElem?_set_ne z1] at h1
    rw [List.getElem?_set_ne z2]
    exact S.dis j k sk sk' p hjk e1 e2 o1 o2 h1
/-- a new owned object -/
theorem Sl.setOwn (S : Sl K F0 H0 F H σ env) {i : Nat} {p : Addr} {sk : Sk} (hs : SkOk K H0 F H sk (.ref p)) (hn : ∀ (j : Nat) (sk' : Sk), env[j]? = some (some sk') → sk'.own = true → σ[j]? ≠ some (some (V.ref p))) :
    Sl K F0 H0 F H (σ.set i (some (.ref p))) (env.set i (some sk)) := by
  refine ⟨S.adv, fun j sk q => ?_, fun j k sk1 sk2 p' hjk e1 e2 o1 o2 h1 => ?_, by rw [List.length_set, List.length_set]; exact S.len⟩
  · rcases set_get q with ⟨rfl, z⟩ | ⟨z, q⟩
    · cases z
      refine ⟨_, ?_, hs⟩
      have hi : i < env.length := set_len q
      rw [List.getElem?_set_self (by rw [S.len]; exact hi)]
    · obtain ⟨w, h1, h2⟩ := S.slot j sk q
      exact ⟨w, by rw [List.getElem?_set_ne z]; exact h1, h2⟩
  · rcases set_get e1 with ⟨z0, z⟩ | ⟨z1, e1⟩
    · rcases set_get e2 with ⟨z2, _⟩ | ⟨z2, e2⟩
      · exact absurd (z0.symm.trans z2) hjk
      · subst z0
        rw [List.getElem?_set_ne z2]
        have hi : i < σ.length := set_len h1
        rw [List.getElem?_set_self hi] at h1
        cases h1
        exact hn k sk2 e2 o2
    · rw [List.getElem?_set_ne z1] at h1
      rcases set_get e2 with ⟨z2, z⟩ | ⟨z2, e2⟩
      · subst z2
        intro q
        have hi : i < σ.length := set_len q
        rw [List.getElem?_set_self hi] at q
        cases q
        exact hn j sk1 e1 o1 h1
      · rw [List.getElem?_set_ne z2]
        exact S.dis j k sk1 sk2 p' hjk e1 e2 o1 o2 h1
theorem Sl.setOw (S : Sl K F0 H0 F H σ env) {i : Nat} {p : Addr} {xs : List D} {vs : List V} (h0 : H0 p = none) (hf : F p = none) (hp : H p = some (.lst vs)) (hn : ∀ (j : Nat) (sk' : Sk), env[j]? = some (some sk') → sk'.own = true → σ[j]? ≠ some (some (V.ref p))) (r : Reps K F xs vs) :
    Sl K F0 H0 F H (σ.set i (some (.ref p))) (env.set i (some (.ow xs))) := S.setOwn ⟨p, vs, rfl, h0, hf, hp, r⟩ hn
/-- an owned object changes -/
theorem Sl.chgO (S : Sl K F0 H0 F H σ env) {i : Nat} {p : Addr} {sk sk' : Sk} {o : HO} (e : env[i]? = some (some sk)) (ho : sk.own = true) (hs : σ[i]? = some (some (.ref p))) (hp : F p = none) (h0 : H0 p = none) (hk : SkOk K H0 F (upd H p o) sk' (.ref p)) :
    Sl K F0 H0 F (upd H p o) σ (env.set i (some sk')) := by
  refine ⟨⟨S.adv.f, fun a u q => ?_, fun a u q => ?_, S.adv.out⟩, fun j sk q => ?_, fun j k sk1 sk2 p' hjk e1 e2 o1 o2 h1 => ?_, by rw [List.length_set]; exact S.len⟩
  · rw [upd_ne (ne_of_none q h0)]; exact S.adv.h a u q
  · rw [upd_ne (ne_of_none q hp)]; exact S.adv.in_ a u q
  · rcases set_get q with ⟨rfl, z⟩ | ⟨z, q⟩
    · cases z
      exact ⟨_, hs, hk⟩
    · obtain ⟨w, h1, h2⟩ := S.slot j sk q
      exact ⟨w, h1, h2.updH fun o2 zz => S.dis i j _ _ p z e q ho o2 hs (by rw [h1, zz])⟩
  · have own : ∀ {j : Nat} {s : Sk}, (env.set i (some sk'))[j]? = some (some s) → s.own = true → ∃ s', env[j]? = some (some s') ∧ s'.own = true := by
      intro j s q o
      rcases set_get q with ⟨rfl, _⟩ | ⟨_, q⟩
      · exact ⟨_, e, ho⟩
      · exact ⟨_, q, o⟩
    obtain ⟨_, q1, r1⟩ := own e1 o1
    obtain ⟨_, q2, r2⟩ := own e2 o2
    exact S.dis j k _ _ p' hjk q1 q2 r1 r2 h1
theorem Sl.chg (S : Sl K F0 H0 F H σ env) {i : Nat} {p : Addr} {xs ys : List D} {ws : List V} (e : env[i]? = some (some (.ow xs))) (hs : σ[i]? = some (some (.ref p))) (hp : F p = none) (h0 : H0 p = none) (r : Reps K F ys ws) :
    Sl K F0 H0 F (upd H p (.lst ws)) σ (env.set i (some (.ow ys))) := S.chgO e rfl hs hp h0 ⟨p, ws, rfl, h0, hp, upd_same, r⟩
/-- an owned object is frozen -/
theorem Sl.freezeO (S : Sl K F0 H0 F H σ env) {i : Nat} {sk : Sk} {d : D} (e : env[i]? = some (some sk)) (ho : sk.own = true) (hd : ∀ p o, SkOk K H0 F H sk (.ref p) → H p = some o → F p = none → Rep K (upd F p o) d (.ref p)) : ∃ F', Ex F F' ∧ Sl K F0 H0 F' H σ (env.set i (some (.im d))) := by
  obtain ⟨v, hs, hk⟩ := S.slot i _ e
  obtain ⟨p, o, rfl, h0, hf, hp⟩ := hk.at ho
  have ad : Ex F (upd F p o) := Ex.new hf
  have inn : Ex (upd F p o) H := fun a u q => by
    by_cases z : a = p
    · subst z; rw [upd_same] at q; cases q; exact hp
    · rw [upd_ne z] at q; exact S.ex a u q
  refine ⟨upd F p o, ad, ⟨⟨S.adv.f.trans ad, S.adv.h, inn, fun a h1 h2 => ?_⟩, fun j sk q => ?_, fun j k sk1 sk2 p' hjk e1 e2 o1 o2 h1 => ?_, by rw [List.length_set]; exact S.len⟩⟩
  · have z : a ≠ p := fun z => h2 (by rw [z]; exact h0)
    rw [upd_ne z]; exact S.adv.out a h1 h2
  · rcases set_get q with ⟨rfl, z⟩ | ⟨z, q⟩
    · cases z
      exact ⟨_, hs, hd p o hk hp hf⟩
    · obtain ⟨w, h1, h2⟩ := S.slot j sk q
      exact ⟨w, h1, h2.updF hf fun o2 zz => S.dis i j _ _ p z e q ho o2 hs (by rw [h1, zz])⟩
  · have own : ∀ {j : Nat} {s : Sk}, (env.set i (some (.im d)))[j]? = some (some s) → s.own = true → env[j]? = some (some s) := by
      intro j s q o
      rcases set_get q with ⟨rfl, z⟩ | ⟨_, q⟩
      · cases z; cases o
      · exact q
    exact S.dis j k _ _ p' hjk (own e1 o1) (own e2 o2) o1 o2 h1
theorem Sl.freeze (S : Sl K F0 H0 F H σ env) {i : Nat} {xs : List D} (e : env[i]? = some (some (.ow xs))) : ∃ F', Ex F F' ∧ Sl K F0 H0 F' H σ (env.set i (some (.im (.lst xs)))) :=
  S.freezeO e rfl fun p o h hp hf => by
    obtain ⟨q, vs, e1, _, _, e4, e5⟩ := h
    cases e1
    rw [hp] at e4; cases e4
    exact ⟨_, vs, rfl, upd_same, Reps.mono (Ex.new hf) _ _ e5⟩
end
end Mi
set_option maxHeartbeats 1000000
namespace Mi
open PySem PySem.Spec L2
open Evl (Ex)

class ToDs (β : Type) where
  ds : β → List D
instance : ToDs Unit := ⟨fun _ => []⟩
instance {α β : Type} [ToD α] [ToDs β] : ToDs (α × β) := ⟨fun p => ToD.d p.1 :: ToDs.ds p.2⟩

/-! ### what follows a value -/
section
variable (K : PySem.W.Frag) (W : WX) (F H : Hp) (σ : L2.St)
def KE {α : Type} [ToD α] (Q : VK) : Res α → Prop
  | .ok x => ∀ v F' H', Adv F H F' H' → Rep K F' (toD x) v → Q v H'
  | .exc c => ∀ F' H', Adv F H F' H' → W (.ref (He.ga K c)) none σ H'
  | .stuck => False
def KA {β : Type} [ToDs β] (Q : List V → Hp → Prop) : Res β → Prop
  | .ok x => ∀ vs F' H', Adv F H F' H' → Reps K F' (ToDs.ds x) vs → Q vs H'
  | .exc c => ∀ F' H', Adv F H F' H' → W (.ref (He.ga K c)) none σ H'
  | .stuck => False
def KT (Q : Bool → Hp → Prop) : Res Bool → Prop
  | .ok b => ∀ F' H', Adv F H F' H' → Q b H'
  | .exc c => ∀ F' H', Adv F H F' H' → W (.ref (He.ga K c)) none σ H'
  | .stuck => False
def KN {α : Type} [ToD α] (Q : VK) : Res (List α) → Prop
  | .ok xs => ∀ p vs F' H', Adv F H F' H' → H p = none → F' p = none → H' p = some (.lst vs) → Reps K F' (xs.map toD) vs → Q (.ref p) H'
  | .exc c => ∀ F' H', Adv F H F' H' → W (.ref (He.ga K c)) none σ H'
  | .stuck => False
end
def EvX (K : PySem.W.Frag) (W : WX) (env : En) (te : TE) {α : Type} [ToD α] (m : Res α) : Prop :=
  ∀ F0 H0 F H σ Q, Sl K F0 H0 F H σ env → KE K W F H σ Q m → te σ H Q
def EvA (K : PySem.W.Frag) (W : WX) (env : En) (ta : TA) {β : Type} [ToDs β] (m : Res β) : Prop :=
  ∀ F0 H0 F H σ Q, Sl K F0 H0 F H σ env → KA K W F H σ Q m → ta σ H Q
def EvT (K : PySem.W.Frag) (W : WX) (env : En) (tt : TT) (m : Res Bool) : Prop :=
  ∀ F0 H0 F H σ Q, Sl K F0 H0 F H σ env → KT K W F H σ Q m → tt σ H Q
def EvN (K : PySem.W.Frag) (W : WX) (env : En) (te : TE) {α : Type} [ToD α] (m : Res (List α)) : Prop :=
  ∀ F0 H0 F H σ Q, Sl K F0 H0 F H σ env → KN K W F H σ Q m → te σ H Q

section
variable {K : PySem.W.Frag} {W : WX} {F H F' H' : Hp} {σ : L2.St} {env : En} {α β γ τ : Type} [ToD α] [ToD β] [ToD γ] [ToD τ] {ta tb te tc : TE} {tt tu : TT} {r : R2}

/-- from what follows a whole to what follows its first part -/
theorem KE.cut {Q : VK} {Q1 : VK} {m : Res α} {f : α → Res β} (ex : Ex F H) (h : KE K W F H σ Q (m.bind f))
    (k : ∀ x v F' H', m = .ok x → Adv F H F' H' → Rep K F' (toD x) v → KE K W F' H' σ Q (f x) → Q1 v H') : KE K W F H σ Q1 m := by
  cases m with
  | ok x =>
    intro v F1 H1 a r
    refine k x v F1 H1 rfl a r ?_
    have h : KE K W F H σ Q (f x) := h
    revert h
    generalize f x = y
    intro h
    cases y with
    | ok y => exact fun v F2 H2 b q => h v F2 H2 (a.trans b) q
    | exc c => exact fun F2 H2 b => h F2 H2 (a.trans b)
    | stuck => exact h.elim
  | exc c => exact h
  | stuck => exact h.elim
theorem KE.adv {Q : VK} {m : Res β} (a : Adv F H F' H') (h : KE K W F H σ Q m) : KE K W F' H' σ Q m := by
  cases m with
  | ok y => exact fun v F2 H2 b q => h v F2 H2 (a.trans b) q
  | exc c => exact fun F2 H2 b => h F2 H2 (a.trans b)
  | stuck => exact h.elim
theorem KT.adv {Q : Bool → Hp → Prop} {m : Res Bool} (a : Adv F H F' H') (h : KT K W F H σ Q m) : KT K W F' H' σ Q m := by
  cases m with
  | ok y => exact fun F2 H2 b => h F2 H2 (a.trans b)
  | exc c => exact fun F2 H2 b => h F2 H2 (a.trans b)
  | stuck => exact h.elim
theorem KA.adv {δ : Type} [ToDs δ] {Q : List V → Hp → Prop} {m : Res δ} (a : Adv F H F' H') (h : KA K W F H σ Q m) : KA K W F' H' σ Q m := by
  cases m with
  | ok y => exact fun v F2 H2 b q => h v F2 H2 (a.trans b) q
  | exc c => exact fun F2 H2 b => h F2 H2 (a.trans b)
  | stuck => exact h.elim

/-- general: te then a use of its value -/
theorem use {Q Q1 : VK} {m : Res α} {F0 H0 : Hp} (hv : EvX K W env te m) (S : Sl K F0 H0 F H σ env)
    (hx : ∀ c, m = .exc c → ∀ F' H', Adv F H F' H' → W (.ref (He.ga K c)) none σ H') (hs : m ≠ .stuck)
    (k : ∀ x v F' H', m = .ok x → Adv F H F' H' → Rep K F' (toD x) v → Q1 v H') : te σ H Q1 := by
  refine hv F0 H0 F H σ Q1 S ?_
  cases m with
  | ok x => exact fun v F' H' a q => k x v F' H' rfl a q
  | exc c => exact hx c rfl
  | stuck => exact hs rfl

/-! ### names and constants -/
theorem ev_var {i : Nat} {x : α} (h : env[i]? = some (some (.im (toD x)))) : EvX K W env (tVar i) (.ok x) := fun F0 H0 F H σ Q S k => by
  obtain ⟨v, e, q⟩ := S.slot i _ h
  exact ⟨v, e, k v F H (Adv.refl S.ex) q⟩
theorem ev_int {i : Int} : EvX K W env (tC (.int i)) (.ok i) := fun F0 H0 F H σ Q S k => k _ F H (Adv.refl S.ex) rfl
theorem ev_bl {b : Bool} : EvX K W env (tC (.bl b)) (.ok b) := fun F0 H0 F H σ Q S k => k _ F H (Adv.refl S.ex) rfl
theorem ev_str {x : Str} : EvX K W env (tC (.str x)) (.ok x) := fun F0 H0 F H σ Q S k => k _ F H (Adv.refl S.ex) rfl
/-- the same value in another type -/
theorem ev_as {m : Res α} {m' : Res β} (h : EvX K W env te m) (f : α → β) (e : ∀ x, toD (f x) = toD x) (em : m.bind (fun x => .ok (f x)) = m') : EvX K W env te m' := fun F0 H0 F H σ Q S k => by
  refine h F0 H0 F H σ Q S ?_
  subst em
  cases m with
  | ok x => intro v F' H' a q; exact k v F' H' a (by rw [e]; exact q)
  | exc c => exact k
  | stuck => exact k.elim

/-! ### operators -/
def OpX (K : PySem.W.Frag) (r : R2) (f : α → β → Res γ) : Prop := ∀ (F H : Hp) (x : α) (y : β) (v u : V) (Q : VK), Ex F H → Rep K F (toD x) v → Rep K F (toD y) u →
  KE K (fun _ _ _ _ => False) F H [] Q (f x y) → r v u H Q
/-- operators let nothing out -/
def Mild (f : α → β → Res γ) : Prop := ∀ x y c, f x y ≠ .exc c
theorem KE.mild {Q : VK} {m : Res γ} (hm : ∀ c, m ≠ .exc c) (h : KE K W F H σ Q m) : KE K (fun _ _ _ _ => False) F H [] Q m := by
  cases m with
  | ok x => exact h
  | exc c => exact absurd rfl (hm c)
  | stuck => exact h.elim
theorem ev_op {m1 : Res α} {m2 : Res β} {f : α → β → Res γ} (ho : OpX K r f) (hm : Mild f) (ha : EvX K W env ta m1) (hb : EvX K W env tb m2) :
    EvX K W env (tOp r ta tb) (m1.bind fun x => m2.bind fun y => f x y) := fun F0 H0 F H σ Q S k => by
  refine ha F0 H0 F H σ _ S (KE.cut S.ex k fun x v F1 H1 e1 a1 r1 k1 => ?_)
  refine hb F0 H0 F1 H1 σ _ (S.step a1) (KE.cut a1.in_ k1 fun y u F2 H2 e2 a2 r2 k2 => ?_)
  exact ho F2 H2 x y v u Q a2.in_ (Rep.mono a2.f _ _ r1) r2 (k2.mild (hm x y))
theorem mild_ok {g : α → β → γ} : Mild (fun x y => Res.ok (g x y)) := fun _ _ _ h => nomatch h
theorem mild_need {p : α → β → Prop} {g : α → β → γ} : Mild (fun x y => Res.need (p x y) (.ok (g x y))) := fun x y c h => by
  by_cases q : p x y
  · have h : Res.need (p x y) (.ok (g x y)) = .exc c := h
    rw [Res.need_pos q] at h; cases h
  · have h : Res.need (p x y) (.ok (g x y)) = .exc c := h
    rw [Res.need_neg q] at h; cases h
theorem opx_I0 {g : Int → Int → Int} : OpX K (rI0 fun i j => .int (g i j)) (fun i j => .ok (g i j)) := fun F H x y v u Q e h1 h2 k =>
  ⟨x, y, h1, h2, k _ F H (Adv.refl e) rfl⟩
theorem opx_B0 {g : Int → Int → Bool} : OpX K (rI0 fun i j => .bl (g i j)) (fun i j => .ok (g i j)) := fun F H x y v u Q e h1 h2 k =>
  ⟨x, y, h1, h2, k _ F H (Adv.refl e) rfl⟩
theorem opx_I {C : Int → Int → Prop} {g : Int → Int → Int} : OpX K (rI C fun i j => .int (g i j)) (fun i j => .need (C i j) (.ok (g i j))) := fun F H x y v u Q e h1 h2 k => by
  by_cases c : C x y
  · have k : KE K (fun _ _ _ _ => False) F H [] Q (Res.need (C x y) (.ok (g x y))) := k
    rw [Res.need_pos c] at k
    exact ⟨x, y, h1, h2, c, k _ F H (Adv.refl e) rfl⟩
  · have k : KE K (fun _ _ _ _ => False) F H [] Q (Res.need (C x y) (.ok (g x y))) := k
    rw [Res.need_neg c] at k
    exact k.elim
/-- the same where the condition is known -/
theorem ev_opI {m1 m2 : Res Int} {C : Int → Int → Prop} {g : Int → Int → Int} (hc : ∀ x y, m1 = .ok x → m2 = .ok y → C x y) (ha : EvX K W env ta m1) (hb : EvX K W env tb m2) :
    EvX K W env (tOp (rI C fun i j => .int (g i j)) ta tb) (m1.bind fun x => m2.bind fun y => .ok (g x y)) := fun F0 H0 F H σ Q S k => by
  refine ha F0 H0 F H σ _ S (KE.cut S.ex k fun x v F1 H1 e1 a1 r1 k1 => ?_)
  refine hb F0 H0 F1 H1 σ _ (S.step a1) (KE.cut a1.in_ k1 fun y u F2 H2 e2 a2 r2 k2 => ?_)
  exact ⟨x, y, r1, r2, hc x y e1 e2, k2 _ F2 H2 (Adv.refl a2.in_) rfl⟩
theorem ev_un {m1 : Res Int} {g : Int → Int} (ha : EvX K W env ta m1) : EvX K W env (tUn (rU fun i => .int (g i)) ta) (m1.bind fun x => .ok (g x)) := fun F0 H0 F H σ Q S k => by
  refine ha F0 H0 F H σ _ S (KE.cut S.ex k fun x v F1 H1 e1 a1 r1 k1 => ?_)
  exact ⟨x, r1, k1 _ F1 H1 (Adv.refl a1.in_) rfl⟩
/-- == of two ints, two bools, two texts -/
theorem opx_eqI : OpX K rEq (fun (i j : Int) => .ok (decide (i = j))) := fun F H x y v u Q e h1 h2 k => by
  cases (show v = V.int x from h1); cases (show u = V.int y from h2)
  refine ⟨rfl, ?_⟩
  rw [show decide (V.int x = V.int y) = decide (x = y) by rw [dec_int]; rfl]
  exact k _ F H (Adv.refl e) rfl
theorem opx_neI : OpX K rNe (fun (i j : Int) => .ok (!decide (i = j))) := fun F H x y v u Q e h1 h2 k => by
  cases (show v = V.int x from h1); cases (show u = V.int y from h2)
  refine ⟨rfl, ?_⟩
  rw [show decide (V.int x = V.int y) = decide (x = y) by rw [dec_int]; rfl]
  exact k _ F H (Adv.refl e) rfl
def D.isNon : D → Bool
  | .non => true
  | _ => false
/-! ### == of data -/
mutual
def D.py : D → PyData
  | .non => .none
  | .bl b => .bool b
  | .int i => .int i
  | .str s => .str s
  | .ty _ => .none
  | .tup xs => .tuple (pyL xs)
  | .lst xs => .list (pyL xs)
  | .obj _ _ _ => .none
  | .ro _ => .none
  | .dct _ _ => .none
def pyL : List D → List PyData
  | [] => []
  | x :: xs => D.py x :: pyL xs
end
mutual
/-- no objects, no classes within -/
def D.flat : D → Bool
  | .ty _ => false
  | .obj _ _ _ => false
  | .ro _ => false
  | .dct _ _ => false
  | .tup xs => flatL xs
  | .lst xs => flatL xs
  | _ => true
def flatL : List D → Bool
  | [] => true
  | x :: xs => D.flat x && flatL xs
end
mutual
theorem dp_of : ∀ {x : D} {v : V}, Rep K F x v → x.flat = true → Dp K F v x.py
  | .non, v, h, _ => by rw [show v = V.non from h]; exact .non
  | .bl b, v, h, _ => by rw [show v = V.bl b from h]; exact .bl b
  | .int b, v, h, _ => by rw [show v = V.int b from h]; exact .int b
  | .str b, v, h, _ => by rw [show v = V.str b from h]; exact .str b
  | .ty b, v, h, q => by cases q
  | .tup ds, v, h, q => by obtain ⟨a, vs, rfl, h2, h3⟩ := h; exact .tup h2 (dps_of h3 q)
  | .lst ds, v, h, q => by obtain ⟨a, vs, rfl, h2, h3⟩ := h; exact .lst (Evl.sq_of h2) (dps_of h3 q)
  | .obj c ks ds, v, h, q => by cases q
  | .ro ds, v, h, q => by cases q
  | .dct ks ds, v, h, q => by cases q
theorem dps_of : ∀ {xs : List D} {vs : List V}, Reps K F xs vs → flatL xs = true → DpAll K F vs (pyL xs)
  | [], vs, h, _ => by rw [show vs = [] from h]; exact .nil
  | x :: xs, vs, h, q => by
    obtain ⟨v, r, rfl, h2, h3⟩ := h
    have q2 := Bool.and_eq_true_iff.mp (show (D.flat x && flatL xs) = true from q)
    exact .cons (dp_of h2 q2.1) (dps_of h3 q2.2)
end
mutual
theorem Dp.mono {e : Ex F F'} : ∀ {v : V} {x : PyData}, Dp K F v x → Dp K F' v x
  | _, _, .non => .non
  | _, _, .bl b => .bl b
  | _, _, .int b => .int b
  | _, _, .str b => .str b
  | _, _, .lst h1 h2 => .lst (Evl.ex_l e h1) (Dps.mono (e := e) h2)
  | _, _, .tup h1 h2 => .tup (Evl.ex_t e h1) (Dps.mono (e := e) h2)
theorem Dps.mono {e : Ex F F'} : ∀ {v : List V} {x : List PyData}, DpAll K F v x → DpAll K F' v x
  | _, _, .nil => .nil
  | _, _, .cons h1 h2 => .cons (Dp.mono (e := e) h1) (Dps.mono (e := e) h2)
end
/-- data that == may be asked of -/
def D.okq (x : D) : Bool := x.flat && SeqAt.shaped x.py
def pyEq (x y : D) : Bool := PyData.eqv x.py y.py
theorem opx_eqD : OpX K (rEqD K) (fun (x : α) (y : β) => .need ((toD x).okq = true ∧ (toD y).okq = true) (.ok (pyEq (toD x) (toD y)))) := fun F H x y v u Q e h1 h2 k => by
  dsimp only at k
  by_cases c : (toD x).okq = true ∧ (toD y).okq = true
  · rw [Res.need_pos c] at k
    obtain ⟨c1, c2⟩ := c
    obtain ⟨a1, a2⟩ := Bool.and_eq_true_iff.mp c1
    obtain ⟨b1, b2⟩ := Bool.and_eq_true_iff.mp c2
    exact ⟨_, _, Dp.mono (e := e) (dp_of h1 a1), Dp.mono (e := e) (dp_of h2 b1), a2, b2, k _ F H (Adv.refl e) rfl⟩
  · rw [Res.need_neg c] at k
    exact k.elim
theorem opx_neD : OpX K (rNeD K) (fun (x : α) (y : β) => .need ((toD x).okq = true ∧ (toD y).okq = true) (.ok (!pyEq (toD x) (toD y)))) := fun F H x y v u Q e h1 h2 k => by
  dsimp only at k
  by_cases c : (toD x).okq = true ∧ (toD y).okq = true
  · rw [Res.need_pos c] at k
    obtain ⟨c1, c2⟩ := c
    obtain ⟨a1, a2⟩ := Bool.and_eq_true_iff.mp c1
    obtain ⟨b1, b2⟩ := Bool.and_eq_true_iff.mp c2
    exact ⟨_, _, Dp.mono (e := e) (dp_of h1 a1), Dp.mono (e := e) (dp_of h2 b1), a2, b2, k _ F H (Adv.refl e) rfl⟩
  · rw [Res.need_neg c] at k
    exact k.elim

/-! ### an item -/
def idx {α : Type} (xs : List α) (i : Int) : Res α := match atI xs i with
  | some x => .ok x
  | none => .stuck
theorem idx_mild {α : Type} (xs : List α) (i : Int) (c : Str) : idx xs i ≠ .exc c := by
  unfold idx; split <;> intro h <;> cases h
theorem atI_map {α β : Type} (f : α → β) (xs : List α) (i : Int) : atI (xs.map f) i = (atI xs i).map f := by
  unfold atI
  rw [List.length_map]
  cases ixN xs.length i with
  | none => rfl
  | some j => simp
theorem Reps.at {xs : List D} {vs : List V} {i : Int} {x : D} (h : Reps K F xs vs) (e : atI xs i = some x) : ∃ v, atI vs i = some v ∧ Rep K F x v := by
  unfold atI at e ⊢
  rw [← h.length]
  cases q : ixN xs.length i with
  | none => rw [q] at e; cases e
  | some j => rw [q] at e; exact Reps.get h e
theorem opx_ixL : OpX K (rIxL K) (fun (xs : List α) (i : Int) => idx xs i) := fun F H xs i v u Q e h1 h2 k => by
  obtain ⟨a, vs, rfl, hl, hr⟩ := h1
  cases (show u = V.int i from h2)
  dsimp only [idx] at k
  cases q : atI xs i with
  | none => rw [q] at k; exact k.elim
  | some x =>
    rw [q] at k
    obtain ⟨w, hw, rw_⟩ := Reps.at (i := i) hr (x := toD x) (by rw [atI_map, q]; rfl)
    exact ⟨a, vs, i, w, rfl, rfl, sq_ex e hl, hw, k _ F H (Adv.refl e) rw_⟩
/-! ### tests, and, or, not -/
theorem et_test {m : Res Bool} (ha : EvX K W env te m) : EvT K W env (tTest te) m := fun F0 H0 F H σ Q S k => by
  refine ha F0 H0 F H σ _ S ?_
  cases m with
  | ok b => exact fun v F' H' a q => ⟨b, q, k F' H' a⟩
  | exc c => exact k
  | stuck => exact k.elim
theorem et_B {m : Res Bool} (ha : EvX K W env te m) : EvT K W env (tB te) m := et_test ha
theorem et_not {m : Res Bool} (ha : EvT K W env tt m) : EvT K W env (tNot tt) (m.bind fun b => .ok (!b)) := fun F0 H0 F H σ Q S k => by
  refine ha F0 H0 F H σ _ S ?_
  cases m with
  | ok b => exact k
  | exc c => exact k
  | stuck => exact k.elim
theorem et_and {m1 m2 : Res Bool} (ha : EvT K W env tt m1) (hb : EvT K W env tu m2) : EvT K W env (tAnd tt tu) (m1.bind fun b => cond b m2 (.ok false)) := fun F0 H0 F H σ Q S k => by
  refine ha F0 H0 F H σ _ S ?_
  cases m1 with
  | ok b =>
    intro F' H' a
    cases b with
    | true =>
      have k : KT K W F H σ Q m2 := k
      show tu σ H' Q
      exact hb F0 H0 F' H' σ Q (S.step a) (k.adv a)
    | false => exact k F' H' a
  | exc c => exact k
  | stuck => exact k.elim
theorem et_or {m1 m2 : Res Bool} (ha : EvT K W env tt m1) (hb : EvT K W env tu m2) : EvT K W env (tOr tt tu) (m1.bind fun b => cond b (.ok true) m2) := fun F0 H0 F H σ Q S k => by
  refine ha F0 H0 F H σ _ S ?_
  cases m1 with
  | ok b =>
    intro F' H' a
    cases b with
    | false =>
      have k : KT K W F H σ Q m2 := k
      show tu σ H' Q
      exact hb F0 H0 F' H' σ Q (S.step a) (k.adv a)
    | true => exact k F' H' a
  | exc c => exact k
  | stuck => exact k.elim
theorem ev_andV {m1 m2 : Res Bool} (ha : EvX K W env ta m1) (hb : EvX K W env tb m2) : EvX K W env (tAndV ta tb) (m1.bind fun b => cond b m2 (.ok false)) := fun F0 H0 F H σ Q S k => by
  refine ha F0 H0 F H σ _ S ?_
  cases m1 with
  | ok b =>
    intro v F' H' a r
    refine ⟨b, r, ?_⟩
    cases b with
    | true =>
      have k : KE K W F H σ Q m2 := k
      exact hb F0 H0 F' H' σ Q (S.step a) (k.adv a)
    | false => exact k _ F' H' a rfl
  | exc c => exact k
  | stuck => exact k.elim
theorem ev_notV {m : Res Bool} (ha : EvX K W env ta m) : EvX K W env (tNotV ta) (m.bind fun b => .ok (!b)) := fun F0 H0 F H σ Q S k => by
  refine ha F0 H0 F H σ _ S ?_
  cases m with
  | ok b => exact fun v F' H' a r => ⟨b, r, k _ F' H' a rfl⟩
  | exc c => exact k
  | stuck => exact k.elim
/-- a < b < c -/
theorem ev_chain {m1 : Res α} {m2 : Res β} {m3 : Res γ} {r' : R2} {f : α → β → Res Bool} {g : β → γ → Res Bool} (ho : OpX K r f) (hf : Mild f) (ho' : OpX K r' g) (hg : Mild g) (ha : EvX K W env ta m1) (hb : EvX K W env tb m2) (hc : EvX K W env tc m3) :
    EvX K W env (tChain r r' ta tb tc) (m1.bind fun x => m2.bind fun y => (f x y).bind fun b => cond b (m3.bind fun z => g y z) (.ok false)) := fun F0 H0 F H σ Q S k => by
  refine ha F0 H0 F H σ _ S (KE.cut S.ex k fun x v F1 H1 e1 a1 r1 k1 => ?_)
  refine hb F0 H0 F1 H1 σ _ (S.step a1) (KE.cut a1.in_ k1 fun y u F2 H2 e2 a2 r2 k2 => ?_)
  refine ho F2 H2 x y v u _ a2.in_ (Rep.mono a2.f _ _ r1) r2 ?_
  cases q : f x y with
  | ok b =>
    rw [q] at k2
    intro w F3 H3 a3 rb
    refine ⟨b, rb, ?_⟩
    cases b with
    | true =>
      have k3 : KE K W F2 H2 σ Q (m3.bind fun z => g y z) := k2
      show tc σ H3 _
      refine hc F0 H0 F3 H3 σ _ (((S.step a1).step a2).step a3) (KE.cut a3.in_ (k3.adv a3) fun z w F4 H4 e4 a4 r4 k4 => ?_)
      exact ho' F4 H4 y z u w Q a4.in_ (Rep.mono (a3.trans a4).f _ _ r2) r4 (k4.mild (hg y z))
    | false => exact k2 _ F3 H3 a3 rfl
  | exc c => exact absurd q (hf x y c)
  | stuck => rw [q] at k2; exact k2.elim

/-! ### arguments, displays, calls -/
theorem ea_nil : EvA K W env tNil (.ok ()) := fun F0 H0 F H σ Q S k => k [] F H (Adv.refl S.ex) rfl
theorem ea_cons {δ : Type} [ToDs δ] {t : TA} {m1 : Res α} {m2 : Res δ} (ha : EvX K W env te m1) (hb : EvA K W env t m2) : EvA K W env (tCons te t) (m1.bind fun x => m2.bind fun y => .ok (x, y)) := fun F0 H0 F H σ Q S k => by
  refine ha F0 H0 F H σ _ S ?_
  cases m1 with
  | ok x =>
    intro v F1 H1 a1 r1
    have k1 : KA K W F H σ Q (m2.bind fun y => .ok (x, y)) := k
    refine hb F0 H0 F1 H1 σ _ (S.step a1) ?_
    cases m2 with
    | ok y =>
      intro vs F2 H2 a2 r2
      exact k1 (v :: vs) F2 H2 (a1.trans a2) ⟨v, vs, rfl, Rep.mono a2.f _ _ r1, r2⟩
    | exc c => exact fun F2 H2 a2 => k1 F2 H2 (a1.trans a2)
    | stuck => exact k1.elim
  | exc c => exact k
  | stuck => exact k.elim
/-- a tuple that is made; its type by f -/
theorem ev_tup {δ : Type} [ToDs δ] {t : TA} {m : Res δ} {f : δ → α} (ha : EvA K W env t m) (hf : ∀ y : δ, toD (f y) = .tup (ToDs.ds y)) (hn : ∀ y : δ, (ToDs.ds y).length ≤ 100000) : EvX K W env (tTup t) (m.bind fun y => .ok (f y)) := fun F0 H0 F H σ Q S k => by
  refine ha F0 H0 F H σ _ S ?_
  cases m with
  | ok y =>
    intro vs F1 H1 a1 r1
    refine ⟨by rw [← r1.length]; exact Evl.sz_of (hn y), fun p hp => ?_⟩
    have a2 : Adv F1 H1 (upd F1 p (.tup vs)) (upd H1 p (.tup vs)) := Adv.new a1.in_ hp
    refine k _ _ _ (a1.trans a2) ?_
    rw [hf]
    exact ⟨p, vs, rfl, .inl (.inl upd_same), Reps.mono a2.f _ _ r1⟩
  | exc c => exact k
  | stuck => exact k.elim
/-- a list that is made -/
theorem en_lst {δ : Type} [ToDs δ] {t : TA} {m : Res δ} {f : δ → List α} (ha : EvA K W env t m) (hf : ∀ y : δ, (f y).map toD = ToDs.ds y) (hn : ∀ y : δ, (ToDs.ds y).length ≤ 100000) : EvN K W env (tLst t) (m.bind fun y => .ok (f y)) := fun F0 H0 F H σ Q S k => by
  refine ha F0 H0 F H σ _ S ?_
  cases m with
  | ok y =>
    intro vs F1 H1 a1 r1
    refine ⟨by rw [← r1.length]; exact Evl.sz_of (hn y), fun p hp => ?_⟩
    refine k p vs _ _ (a1.trans (Adv.newO a1.in_ hp)) (Evl.fresh_back a1.h hp) (none_of_ex a1.in_ hp) upd_same ?_
    rw [hf]
    exact r1
  | exc c => exact k
  | stuck => exact k.elim
/-- a new list as a value that is not changed later -/
theorem ev_ofN {m : Res (List α)} (h : EvN K W env te m) : EvX K W env te m := fun F0 H0 F H σ Q S k => by
  refine h F0 H0 F H σ Q S ?_
  cases m with
  | ok xs =>
    intro p vs F1 H1 a1 hp hf hh r
    have e : Ex F1 (upd F1 p (.lst vs)) := Ex.new hf
    refine k _ (upd F1 p (.lst vs)) H1 ⟨a1.f.trans e, a1.h, fun a u q => ?_, fun q h1 h2 => ?_⟩ ⟨p, vs, rfl, upd_same, Reps.mono e _ _ r⟩
    · by_cases z : a = p
      · subst z; rw [upd_same] at q; cases q; exact hh
      · rw [upd_ne z] at q; exact a1.in_ a u q
    · have z : q ≠ p := fun z => h2 (by rw [z]; exact hp)
      rw [upd_ne z]; exact a1.out q h1 h2
  | exc c => exact k
  | stuck => exact k.elim
/-- a def's promise, by the function that tells what it gives -/
def spM (K : PySem.W.Frag) {δ : Type} [ToDs δ] (f : δ → Res α) : Sp := fun vs H Q E => ∃ F x, Ex F H ∧ Reps K F (ToDs.ds x) vs ∧ KE K (fun cls d _ H => E cls d H) F H [] Q (f x)
theorem ev_call {δ : Type} [ToDs δ] {t : TA} {m : Res δ} {f : δ → Res α} (ha : EvA K W env t m) : EvX K W env (tCallS (spM K f) (WE W) t) (m.bind f) := fun F0 H0 F H σ Q S k => by
  refine ha F0 H0 F H σ _ S ?_
  cases m with
  | ok y =>
    intro vs F1 H1 a1 r1
    refine ⟨F1, y, a1.in_, r1, ?_⟩
    have k : KE K W F H σ Q (f y) := k
    have k := k.adv a1
    revert k
    generalize f y = z
    intro k
    cases z with
    | ok z => exact k
    | exc c => exact k
    | stuck => exact k.elim
  | exc c => exact k
  | stuck => exact k.elim
namespace Res
def noexc {α : Type} : Res α → Res α
  | .exc _ => .stuck
  | m => m
end Res
/-- a call of a def that lets nothing out there -/
theorem ev_call0 {δ : Type} [ToDs δ] {t : TA} {m : Res δ} {f : δ → Res α} (ha : EvA K W env t m) : EvX K W env (tCall (spM K f) [] E0 t) (m.bind fun y => (f y).noexc) := fun F0 H0 F H σ Q S k => by
  refine ha F0 H0 F H σ _ S ?_
  cases m with
  | ok y =>
    intro vs F1 H1 a1 r1
    refine ⟨F1, y, a1.in_, by rw [List.append_nil]; exact r1, ?_⟩
    have k : KE K W F H σ Q (f y).noexc := k
    have k := k.adv a1
    revert k
    generalize f y = z
    intro k
    cases z with
    | ok z => exact k
    | exc c => exact k.elim
    | stuck => exact k.elim
  | exc c => exact k
  | stuck => exact k.elim
/-- built-in defs by their values -/
def CrX (K : PySem.W.Frag) (r : List V → Hp → VK → Prop) {δ : Type} [ToDs δ] (f : δ → Res α) : Prop := ∀ (F H : Hp) (x : δ) (vs : List V) (Q : VK), Ex F H → Reps K F (ToDs.ds x) vs → KE K (fun _ _ _ _ => False) F H [] Q (f x) → r vs H Q
theorem ev_cb {δ : Type} [ToDs δ] {r : List V → Hp → VK → Prop} {t : TA} {m : Res δ} {f : δ → Res α} (ho : CrX K r f) (hm : ∀ x c, f x ≠ .exc c) (ha : EvA K W env t m) : EvX K W env (tCB r t) (m.bind f) := fun F0 H0 F H σ Q S k => by
  refine ha F0 H0 F H σ _ S ?_
  cases m with
  | ok y =>
    intro vs F1 H1 a1 r1
    have k : KE K W F H σ Q (f y) := k
    exact ho F1 H1 y vs Q a1.in_ r1 ((k.adv a1).mild (hm y))
  | exc c => exact k
  | stuck => exact k.elim
end
end Mi
set_option maxHeartbeats 1000000
namespace Mi
open PySem PySem.Spec L2
open Evl (Ex)

/-! ### statements -/
inductive EnLe : En → En → Prop
  | nil : EnLe [] []
  | same {e : Option Sk} {l m : En} : EnLe l m → EnLe (e :: l) (e :: m)
  | drop {e : Option Sk} {l m : En} : EnLe l m → EnLe (e :: l) (none :: m)
theorem EnLe.refl : ∀ l : En, EnLe l l
  | [] => .nil
  | _ :: l => .same (EnLe.refl l)
theorem EnLe.get : ∀ {l m : En}, EnLe l m → ∀ {i : Nat} {sk : Sk}, m[i]? = some (some sk) → l[i]? = some (some sk)
  | _, _, .nil, i, sk, h => h
  | _, _, .same t, 0, sk, h => h
  | _, _, .same t, i + 1, sk, h => EnLe.get t (by simpa using h)
  | _, _, .drop t, 0, sk, h => by simp at h
  | _, _, .drop t, i + 1, sk, h => EnLe.get t (by simpa using h)
theorem EnLe.len {l m : En} (h : EnLe l m) : l.length = m.length := by
  induction h with
  | nil => rfl
  | same _ ih => simp [ih]
  | drop _ ih => simp [ih]
theorem Sl.weak {K : PySem.W.Frag} {F0 H0 F H : Hp} {σ : L2.St} {env env' : En} (S : Sl K F0 H0 F H σ env) (h : EnLe env env') : Sl K F0 H0 F H σ env' :=
  ⟨S.adv, fun i sk e => S.slot i sk (h.get e), fun i j sk sk' p hij e1 e2 => S.dis i j sk sk' p hij (h.get e1) (h.get e2), S.len.trans h.len⟩
def Blk (K : PySem.W.Frag) (F0 H0 : Hp) {τ : Type} (KP : Res τ → Prop) (T : L2.St → Hp → Prop) (env : En) (m : Res τ) : Prop :=
  ∀ F H σ, Sl K F0 H0 F H σ env → KP m → T σ H
/-- what is asked of a returned value besides: of most types nothing -/
class ToR (τ : Type) where
  fr : PySem.W.Frag → τ → V → Hp → Hp → Hp → Prop
instance (priority := low) dfltR {τ : Type} : ToR τ := ⟨fun _ _ _ _ _ _ => True⟩
class DR (τ : Type) [ToR τ] : Prop where
  tr : ∀ K (x : τ) v H0 F H, ToR.fr K x v H0 F H
instance (priority := low) dfltD {τ : Type} : @DR τ dfltR := @DR.mk τ dfltR fun _ _ _ _ _ _ => trivial
structure Lk (K : PySem.W.Frag) (W : WX) (F0 H0 : Hp) (rt : VK) (PT : En → Prop) {τ : Type} [ToD τ] [ToR τ] (KP : Res τ → Prop) : Prop where
  ok : ∀ x, KP (.ok x) → ∀ v F H, Adv F0 H0 F H → Rep K F (toD x) v → ToR.fr K x v H0 F H → rt v H
  exc : ∀ c F H σ env, KP (.exc c) → PT env → Sl K F0 H0 F H σ env → W (.ref (He.ga K c)) none σ H
  no : ¬ KP .stuck
section
variable {K : PySem.W.Frag} {W : WX} {F0 H0 F H F' H' F1 : Hp} {rt : VK} {PT : En → Prop} {env env' : En} {α β γ τ : Type} [ToD α] [ToD β] [ToD γ] [ToD τ] [ToR τ] {KP : Res τ → Prop} {te ta tb tc : TE} {tt : TT} {Z : Ends} {t u : TS} {T : L2.St → Hp → Prop}
theorem Sl.base {σ : L2.St} (S : Sl K F0 H0 F1 H' σ env) {σ' : L2.St} (S' : Sl K F1 H0 F H σ' env') : Sl K F0 H0 F H σ' env' :=
  ⟨⟨S.adv.f.trans S'.adv.f, S'.adv.h, S'.adv.in_, fun p h1 h2 => S'.adv.out p (S.adv.out p h1 h2) h2⟩, S'.slot, S'.dis, S'.len⟩
theorem Lk.base (L : Lk K W F0 H0 rt PT KP) {σ : L2.St} (S : Sl K F0 H0 F1 H' σ env) : Lk K W F1 H0 rt PT KP :=
  ⟨fun x h v F H a r => L.ok x h v F H ⟨S.adv.f.trans a.f, a.h, a.in_, fun p h1 h2 => a.out p (S.adv.out p h1 h2) h2⟩ r,
   fun c F H σ' env' h p S' => L.exc c F H σ' env' h p (S.base S'), L.no⟩
theorem Blk.base {m : Res τ} (B : Blk K F0 H0 KP T env' m) {σ : L2.St} (S : Sl K F0 H0 F1 H' σ env) : Blk K F1 H0 KP T env' m := fun F H σ' S' h => B F H σ' (S.base S') h
theorem Blk.weak {m : Res τ} (B : Blk K F0 H0 KP T env' m) (h : EnLe env env') : Blk K F0 H0 KP T env m := fun F H σ S k => B F H σ (S.weak h) k

/-- what follows an expression in a block -/
theorem Lk.ke (L : Lk K W F0 H0 rt PT KP) (hT : PT env) {σ : L2.St} (S : Sl K F0 H0 F H σ env) {m : Res α} {f : α → Res τ} (h : KP (m.bind f)) {Q : VK}
    (k : ∀ x v F' H', m = .ok x → Adv F H F' H' → Rep K F' (toD x) v → KP (f x) → Q v H') : KE K W F H σ Q m := by
  cases m with
  | ok x => exact fun v F' H' a r => k x v F' H' rfl a r h
  | exc c => exact fun F' H' a => L.exc c F' H' σ env h hT (S.step a)
  | stuck => exact (L.no h).elim
theorem Lk.kt (L : Lk K W F0 H0 rt PT KP) (hT : PT env) {σ : L2.St} (S : Sl K F0 H0 F H σ env) {m : Res Bool} {f : Bool → Res τ} (h : KP (m.bind f)) {Q : Bool → Hp → Prop}
    (k : ∀ x F' H', m = .ok x → Adv F H F' H' → KP (f x) → Q x H') : KT K W F H σ Q m := by
  cases m with
  | ok x => exact fun F' H' a => k x F' H' rfl a h
  | exc c => exact fun F' H' a => L.exc c F' H' σ env h hT (S.step a)
  | stuck => exact (L.no h).elim
theorem Lk.kn (L : Lk K W F0 H0 rt PT KP) (hT : PT env) {σ : L2.St} (S : Sl K F0 H0 F H σ env) {m : Res (List α)} {f : List α → Res τ} (h : KP (m.bind f)) {Q : VK}
    (k : ∀ xs p vs F' H', m = .ok xs → Adv F H F' H' → H p = none → F' p = none → H' p = some (.lst vs) → Reps K F' (xs.map toD) vs → KP (f xs) → Q (.ref p) H') : KN K W F H σ Q m := by
  cases m with
  | ok x => exact fun p vs F' H' a h1 h2 h3 h4 => k x p vs F' H' rfl a h1 h2 h3 h4 h
  | exc c => exact fun F' H' a => L.exc c F' H' σ env h hT (S.step a)
  | stuck => exact (L.no h).elim

theorem blk_seq {m : Res τ} (h : Blk K F0 H0 KP (t { Z with nx := u Z }) env m) : Blk K F0 H0 KP (tSeq t u Z) env m := h
theorem blk_nil {m : Res τ} (h : Blk K F0 H0 KP Z.nx env m) : Blk K F0 H0 KP (tNext Z) env m := h

theorem Blk.nx {m : Res τ} {T bk ct : L2.St → Hp → Prop} {r : VK} (h : Blk K F0 H0 KP T env m) : Blk K F0 H0 KP (Ends.nx ⟨T, r, bk, ct⟩) env m := h
/-! targets -/
def GX (K : PySem.W.Frag) (g : TG) (x : D) (f : En → En) (ws : List Nat) : Prop := ∀ (F0 H0 F H : Hp) (σ : L2.St) (env : En) (v : V) (T : L2.St → Hp → Prop), Sl K F0 H0 F H σ env → Rep K F x v →
  (∀ σ', Sl K F0 H0 F H σ' (f env) → σ'.length = σ.length → (∀ j, j ∉ ws → σ'[j]? = σ[j]?) → T σ' H) → g v σ H T
def GXs (K : PySem.W.Frag) (g : TGs) (xs : List D) (f : En → En) (ws : List Nat) : Prop := ∀ (F0 H0 F H : Hp) (σ : L2.St) (env : En) (vs : List V) (T : L2.St → Hp → Prop), Sl K F0 H0 F H σ env → Reps K F xs vs →
  (∀ σ', Sl K F0 H0 F H σ' (f env) → σ'.length = σ.length → (∀ j, j ∉ ws → σ'[j]? = σ[j]?) → T σ' H) → g vs σ H T
def stE (i : Nat) (x : D) : En → En := fun env => env.set i (some (.im x))
theorem gx_name {i : Nat} {x : D} : GX K (gName i) x (stE i x) [i] := fun F0 H0 F H σ env v T S r k =>
  k _ (S.setIm r) (by rw [List.length_set]) fun j hj => List.getElem?_set_ne fun e => hj (by rw [e]; exact List.mem_singleton.mpr rfl)
theorem gxs_nil : GXs K gNil [] (fun e => e) [] := fun F0 H0 F H σ env vs T S r k => ⟨r, k σ S rfl fun _ _ => rfl⟩
theorem gxs_cons {g : TG} {gs : TGs} {x : D} {xs : List D} {f1 f2 : En → En} {w1 w2 : List Nat} (h1 : GX K g x f1 w1) (h2 : GXs K gs xs f2 w2) : GXs K (gCons g gs) (x :: xs) (fun e => f2 (f1 e)) (w1 ++ w2) := fun F0 H0 F H σ env vs T S r k => by
  obtain ⟨v, rs, rfl, r1, r2⟩ := r
  refine ⟨v, rs, rfl, h1 F0 H0 F H σ env v _ S r1 fun σ1 S1 l1 o1 => ?_⟩
  refine h2 F0 H0 F H σ1 _ rs T S1 r2 fun σ2 S2 l2 o2 => ?_
  refine k σ2 S2 (l2.trans l1) fun j hj => ?_
  rw [o2 j fun z => hj (List.mem_append_right _ z), o1 j fun z => hj (List.mem_append_left _ z)]
theorem gx_tup {gs : TGs} {n : Nat} {xs : List D} {f : En → En} {ws : List Nat} (h : GXs K gs xs f ws) (hn : xs.length = n) : GX K (gTup K n gs) (.tup xs) f ws := fun F0 H0 F H σ env v T S r k => by
  obtain ⟨a, vs, rfl, h1, h2⟩ := r
  exact ⟨a, vs, rfl, Evl.ex_t S.ex h1, by rw [← h2.length]; exact hn, h F0 H0 F H σ env vs T S h2 k⟩

theorem blk_asg {g : TG} {m : Res α} {f : α → Res τ} {fe : α → En → En} {ws : List Nat} (L : Lk K W F0 H0 rt PT KP) (hT : PT env) (he : EvX K W env te m) (hg : ∀ x, GX K g (toD x) (fe x) ws)
    (k : ∀ x, Blk K F0 H0 KP Z.nx (fe x env) (f x)) : Blk K F0 H0 KP (tAsg te g Z) env (m.bind f) := fun F H σ S h =>
  he F0 H0 F H σ _ S (L.ke hT S h fun x v F1 H1 e1 a1 r1 h1 => hg x F0 H0 F1 H1 σ env v _ (S.step a1) r1 fun σ' S' _ _ => k x F1 H1 σ' S' h1)
theorem blk_set {i : Nat} {m : Res α} {f : α → Res τ} (L : Lk K W F0 H0 rt PT KP) (hT : PT env) (he : EvX K W env te m)
    (k : ∀ x, Blk K F0 H0 KP Z.nx (env.set i (some (.im (toD x)))) (f x)) : Blk K F0 H0 KP (tAsg te (gName i) Z) env (m.bind f) :=
  blk_asg L hT he (fun _ => gx_name) k
/-- x = a new list that is changed later -/
theorem blk_own {i : Nat} {m : Res (List α)} {f : List α → Res τ} (L : Lk K W F0 H0 rt PT KP) (hT : PT env) (he : EvN K W env te m)
    (k : ∀ xs, Blk K F0 H0 KP Z.nx (env.set i (some (.ow (xs.map toD)))) (f xs)) : Blk K F0 H0 KP (tAsg te (gName i) Z) env (m.bind f) := fun F H σ S h =>
  he F0 H0 F H σ _ S (L.kn hT S h fun xs p vs F1 H1 e1 a1 hp hf hh r h1 => by
    have S1 := S.step a1
    refine k xs F1 H1 _ (S1.setOw (Evl.fresh_back S.adv.h hp) hf hh (fun j sk' e ho z => ?_) r) h1
    obtain ⟨v, e2, q⟩ := S.slot j _ e
    obtain ⟨p', o', rfl, _, _, q4⟩ := q.at ho
    rw [e2] at z
    cases z
    rw [hp] at q4; cases q4)
/-- x.append(e), x an owned list -/
theorem blk_app {i : Nat} {xs : List β} {m : Res β} {f : β → Res τ} (L : Lk K W F0 H0 rt PT KP) (hT : PT env) (hx : env[i]? = some (some (.ow (xs.map toD)))) (he : EvX K W env te m)
    (k : ∀ y, Blk K F0 H0 KP Z.nx (env.set i (some (.ow ((xs ++ [y]).map toD)))) (f y)) :
    Blk K F0 H0 KP (tDrop (tBM K "list" rAppend (tVar i) (tCons te tNil)) Z) env (m.bind fun y => .need (xs.length < 16777216) (f y)) := fun F H σ S h => by
  obtain ⟨v, e, p, vs, rfl, h0, hf, hp, hr⟩ := S.slot i _ hx
  refine ⟨_, e, .inl ⟨rfl, _, .inl (.inl hp)⟩, ?_⟩
  refine he F0 H0 F H σ _ S (L.ke hT S h fun y u F1 H1 e1 a1 r1 h1 => ?_)
  by_cases c : xs.length < 16777216
  · rw [Res.need_pos c] at h1
    have hr' := Reps.mono a1.f _ _ hr
    refine ⟨p, vs, u, rfl, rfl, a1.h _ _ hp, by rw [sizeLine_eq, ← hr.length, List.length_map]; exact c, ?_⟩
    refine k y F1 _ σ ((S.step a1).chg hx e (a1.out p hf (by rw [hp]; simp)) h0 ?_) h1
    rw [List.map_append]
    exact Reps.append hr' (Reps.one r1)
  · rw [Res.need_neg c] at h1
    exact (L.no h1).elim
/-- x[i] = e, x an owned list -/
theorem blk_setI {i : Nat} {xs : List β} {m : Res β} {mi : Res Int} {f : List β → Res τ} (L : Lk K W F0 H0 rt PT KP) (hT : PT env) (hx : env[i]? = some (some (.ow (xs.map toD)))) (he : EvX K W env te m) (hi : EvX K W env tb mi)
    (k : ∀ ys, Blk K F0 H0 KP Z.nx (env.set i (some (.ow (ys.map toD)))) (f ys)) :
    Blk K F0 H0 KP (tAsg te (gSub (tVar i) tb rSetL) Z) env (m.bind fun y => mi.bind fun j => match ixN xs.length j with | some a => f (xs.set a y) | none => .stuck) := fun F H σ S h => by
  obtain ⟨v, e, p, vs, rfl, h0, hf, hp, hr⟩ := S.slot i _ hx
  refine he F0 H0 F H σ _ S (L.ke hT S h fun y u F1 H1 e1 a1 r1 h1 => ?_)
  refine ⟨_, e, ?_⟩
  refine hi F0 H0 F1 H1 σ _ (S.step a1) (L.ke hT (S.step a1) h1 fun j w F2 H2 e2 a2 r2 h2 => ?_)
  cases (show w = V.int j from r2)
  have hr' := Reps.mono (a1.trans a2).f _ _ hr
  have ha := (a1.trans a2)
  have hl : vs.length = xs.length := by rw [← hr.length, List.length_map]
  cases q : ixN xs.length j with
  | none => rw [q] at h2; exact (L.no h2).elim
  | some a =>
    rw [q] at h2
    refine ⟨p, vs, j, a, rfl, rfl, ha.h _ _ hp, by rw [hl]; exact q, ?_⟩
    refine k (xs.set a y) F2 _ σ ((S.step ha).chg hx e (ha.out p hf (by rw [hp]; simp)) h0 ?_) h2
    rw [List.map_set]
    exact Reps.set a hr' (Rep.mono a2.f _ _ r1)
theorem blk_freeze {xs : List D} (i : Nat) {m : Res τ} (hx : env[i]? = some (some (.ow xs))) (k : Blk K F0 H0 KP T (env.set i (some (.im (.lst xs)))) m) : Blk K F0 H0 KP T env m := fun F H σ S h => by
  obtain ⟨F', _, S'⟩ := S.freeze hx
  exact k F' H σ S' h
theorem blk_if {m : Res Bool} {f : Bool → Res τ} (L : Lk K W F0 H0 rt PT KP) (hT : PT env) (hc : EvT K W env tt m) (h1 : Blk K F0 H0 KP (t Z) env (f true)) (h2 : Blk K F0 H0 KP (u Z) env (f false)) :
    Blk K F0 H0 KP (tIfS tt t u Z) env (m.bind f) := fun F H σ S h =>
  hc F0 H0 F H σ _ S (L.kt hT S h fun b F1 H1 e1 a1 k1 => by
    cases b with
    | true => exact h1 F1 H1 σ (S.step a1) k1
    | false => exact h2 F1 H1 σ (S.step a1) k1)
theorem blk_ret {m : Res τ} [DR τ] (L : Lk K W F0 H0 rt PT KP) (hT : PT env) (he : EvX K W env te m) (hZ : Z.rt = rt := by rfl) : Blk K F0 H0 KP (tRet te Z) env m := fun F H σ S h => by
  subst hZ
  rw [← Res.bind_pure m] at h
  exact he F0 H0 F H σ _ S (L.ke hT S h fun x v F1 H1 e1 a1 r1 h1 => L.ok x h1 v F1 H1 (S.adv.trans a1) r1 (DR.tr _ _ _ _ _ _))
/-- a value of another type is handed back -/
theorem blk_retAs {m : Res α} {f : α → τ} [DR τ] (L : Lk K W F0 H0 rt PT KP) (hT : PT env) (he : EvX K W env te m) (hf : ∀ x, toD (f x) = toD x) (hZ : Z.rt = rt := by rfl) : Blk K F0 H0 KP (tRet te Z) env (m.bind fun x => .ok (f x)) := fun F H σ S h => by
  subst hZ
  exact he F0 H0 F H σ _ S (L.ke hT S h fun x v F1 H1 e1 a1 r1 h1 => L.ok (f x) h1 v F1 H1 (S.adv.trans a1) (by rw [hf]; exact r1) (DR.tr _ _ _ _ _ _))
/-- raise X('..') -/
theorem blk_raise {c : Str} (L : Lk K W F0 H0 rt PT KP) (hT : PT env) : Blk K F0 H0 KP (fun σ H => W (.ref (He.ga K c)) none σ H) env (.exc c) := fun F H σ S h => L.exc c F H σ env h hT S
/-- x op= e -/
theorem blk_aug {i : Nat} {x : Int} {m : Res Int} {f : Int → Res τ} {g : Int → Int → Int} (L : Lk K W F0 H0 rt PT KP) (hT : PT env) (hx : env[i]? = some (some (.im (.int x)))) (he : EvX K W env te m)
    (k : ∀ y, Blk K F0 H0 KP Z.nx (env.set i (some (.im (.int (g x y))))) (f y)) : Blk K F0 H0 KP (tAug i te (ipI g) Z) env (m.bind f) := fun F H σ S h => by
  obtain ⟨v, e, q⟩ := S.slot i _ hx
  cases (show v = V.int x from q)
  refine ⟨_, e, he F0 H0 F H σ _ S (L.ke hT S h fun y w F1 H1 e1 a1 r1 k1 => ?_)⟩
  exact ⟨x, y, rfl, r1, k y F1 H1 _ ((S.step a1).setIm rfl) k1⟩
/-! ### loops -/
structure JS (K : PySem.W.Frag) (F : Hp) (J : It) (xs : List D) : Prop where
  go : ∀ i H, Ex F H → i < xs.length → J.go i H
  stop : ∀ i H, Ex F H → xs.length ≤ i → J.stop i H
  yld : ∀ i H v H' F1, Ex F F1 → Ex F1 H → i < xs.length → J.yld i H v H' → ∃ F2 x, Adv F1 H F2 H' ∧ xs[i]? = some x ∧ Rep K F2 x v
def KI (K : PySem.W.Frag) (W : WX) (F H : Hp) (σ : L2.St) {α : Type} [ToD α] (R : It → Hp → Prop) : Res (List α) → Prop
  | .ok xs => ∀ J F' H', Adv F H F' H' → JS K F' J (xs.map toD) → R J H'
  | .exc c => ∀ F' H', Adv F H F' H' → W (.ref (He.ga K c)) none σ H'
  | .stuck => False
def EvI (K : PySem.W.Frag) (W : WX) (env : En) (wi : TI) {α : Type} [ToD α] (m : Res (List α)) : Prop :=
  ∀ F0 H0 F H σ R, Sl K F0 H0 F H σ env → KI K W F H σ R m → wi σ H R
theorem Lk.ki (L : Lk K W F0 H0 rt PT KP) (hT : PT env) {σ : L2.St} (S : Sl K F0 H0 F H σ env) {m : Res (List α)} {f : List α → Res τ} (h : KP (m.bind f)) {R : It → Hp → Prop}
    (k : ∀ xs J F' H', m = .ok xs → Adv F H F' H' → JS K F' J (xs.map toD) → KP (f xs) → R J H') : KI K W F H σ R m := by
  cases m with
  | ok x => exact fun J F' H' a h1 => k x J F' H' rfl a h1 h
  | exc c => exact fun F' H' a => L.exc c F' H' σ env h hT (S.step a)
  | stuck => exact (L.no h).elim
theorem js_list {a : Addr} {vs : List V} {xs : List D} (hl : SqL K F a vs) (hr : Reps K F xs vs) : JS K F (Itl K a) xs := by
  have hn := hr.length
  refine ⟨fun i H e hi => ?_, fun i H e hi => ?_, fun i H v H' F1 e1 e2 hi hy => ?_⟩
  · exact ⟨vs, vs[i]'(by omega), Evl.ex_l e hl, List.getElem?_eq_getElem (by omega)⟩
  · exact ⟨vs, Evl.ex_l e hl, by omega⟩
  · obtain ⟨e, f⟩ := hy
    subst e
    have g := f vs (Evl.ex_l (e1.trans e2) hl)
    obtain ⟨w, q1, q2⟩ := hr.get (i := i) (e := xs[i]) (List.getElem?_eq_getElem hi)
    rw [g] at q1; cases q1
    exact ⟨F1, xs[i], Adv.refl e2, List.getElem?_eq_getElem hi, Rep.mono e1 _ _ q2⟩
theorem js_tup {a : Addr} {vs : List V} {xs : List D} (hl : SqT K F a vs) (hr : Reps K F xs vs) : JS K F (Itt K a) xs := by
  have hn := hr.length
  refine ⟨fun i H e hi => ?_, fun i H e hi => ?_, fun i H v H' F1 e1 e2 hi hy => ?_⟩
  · exact ⟨vs, vs[i]'(by omega), Evl.ex_t e hl, List.getElem?_eq_getElem (by omega)⟩
  · exact ⟨vs, Evl.ex_t e hl, by omega⟩
  · obtain ⟨e, f⟩ := hy
    subst e
    have g := f vs (Evl.ex_t (e1.trans e2) hl)
    obtain ⟨w, q1, q2⟩ := hr.get (i := i) (e := xs[i]) (List.getElem?_eq_getElem hi)
    rw [g] at q1; cases q1
    exact ⟨F1, xs[i], Adv.refl e2, List.getElem?_eq_getElem hi, Rep.mono e1 _ _ q2⟩
theorem ei_list {m : Res (List α)} (h : EvX K W env te m) : EvI K W env (iList K te) m := fun F0 H0 F H σ R S k => by
  refine h F0 H0 F H σ _ S ?_
  cases m with
  | ok xs =>
    intro v F1 H1 a r
    obtain ⟨p, vs, rfl, h1, h2⟩ := r
    exact ⟨p, rfl, ⟨vs, sq_ex a.in_ h1⟩, k _ F1 H1 a (js_list (Evl.sq_of h1) h2)⟩
  | exc c => exact k
  | stuck => exact k.elim
theorem ei_tup {m : Res (Tu α)} (h : EvX K W env te m) : EvI K W env (iTup K te) (m.bind fun x => .ok x.xs) := fun F0 H0 F H σ R S k => by
  refine h F0 H0 F H σ _ S ?_
  cases m with
  | ok xs =>
    intro v F1 H1 a r
    obtain ⟨p, vs, rfl, h1, h2⟩ := r
    exact ⟨p, rfl, ⟨vs, Evl.ex_t a.in_ h1⟩, k _ F1 H1 a (js_tup h1 h2)⟩
  | exc c => exact k
  | stuck => exact k.elim
def pyRange (lo hi : Int) : List Int := (List.range (hi - lo).toNat).map fun (i : Nat) => lo + (i : Int)
theorem pyRange_len (lo hi : Int) : (pyRange lo hi).length = (hi - lo).toNat := by simp [pyRange]
theorem pyRange_get {lo hi : Int} {i : Nat} (h : i < (hi - lo).toNat) : (pyRange lo hi)[i]? = some (lo + (i : Int)) := by
  simp [pyRange, h]
theorem js_range {lo hi : Int} : JS K F (Itr lo (hi - lo).toNat) ((pyRange lo hi).map toD) := by
  refine ⟨fun i H e h => ?_, fun i H e h => ?_, fun i H v H' F1 e1 e2 h hy => ?_⟩
  · rw [List.length_map, pyRange_len] at h; exact h
  · rw [List.length_map, pyRange_len] at h; exact h
  · rw [List.length_map, pyRange_len] at h
    obtain ⟨e, q⟩ := hy
    subst e q
    exact ⟨F1, .int (lo + (i : Int)), Adv.refl e2, by rw [List.getElem?_map, pyRange_get h]; rfl, rfl⟩
abbrev okRange (i : Int) : Prop := -(2 ^ 62) ≤ i ∧ i < 2 ^ 62
theorem ei_range1 {m : Res Int} (h : EvX K W env te m) : EvI K W env (iRng1 (tCons te tNil)) (m.bind fun j => .need (okRange j) (.ok (pyRange 0 j))) := fun F0 H0 F H σ R S k => by
  refine h F0 H0 F H σ _ S ?_
  cases m with
  | ok j =>
    intro v F1 H1 a r
    cases (show v = V.int j from r)
    have k : KI K W F H σ R (.need (okRange j) (.ok (pyRange 0 j))) := k
    by_cases c : okRange j
    · rw [Res.need_pos c] at k
      refine ⟨j, rfl, c.1, c.2, k _ F1 H1 a ?_⟩
      have := js_range (K := K) (F := F1) (lo := 0) (hi := j)
      rw [Int.sub_zero] at this
      exact this
    · rw [Res.need_neg c] at k; exact k.elim
  | exc c => exact k
  | stuck => exact k.elim
/-- range(i, j, -1) -/
def pyDown (i j : Int) : List Int := (List.range (i - j).toNat).map fun (a : Nat) => i - (a : Int)
theorem blk_for {S : Type} {wi : TI} {g : TG} {tb : TS} {m : Res (List α)} {fe : α → En → En} {ws : List Nat} (loop : List α → S → Res τ) (k : S → Res τ) (envS : S → En) (s0 : S)
    (L : Lk K W F0 H0 rt PT KP) (hT : PT env) (hi : EvI K W env wi m) (hg : ∀ x, GX K g (toD x) (fe x) ws) (h0 : EnLe env (envS s0)) (hnil : ∀ s, loop [] s = k s)
    (hbody : ∀ F1, Lk K W F1 H0 rt PT KP → (∀ s, Blk K F1 H0 KP Z.nx (envS s) (k s)) → ∀ x r s (N : L2.St → Hp → Prop), (∀ s', Blk K F1 H0 KP N (envS s') (loop r s')) →
      Blk K F1 H0 KP (tb { Z with nx := N, ct := N, bk := Z.nx }) (fe x (envS s)) (loop (x :: r) s))
    (hrest : ∀ s, Blk K F0 H0 KP Z.nx (envS s) (k s)) : Blk K F0 H0 KP (tFor wi g tb Z) env (m.bind fun xs => loop xs s0) := fun F H σ S h => by
  refine hi F0 H0 F H σ _ S (L.ki hT S h fun xs J F1 H1 e1 a1 js h1 => ?_)
  have S1 := (S.step a1).weak h0
  have S11 : Sl K F1 H0 F1 H1 σ (envS s0) := ⟨⟨Ex.refl _, S1.adv.h, S1.adv.in_, fun p q _ => q⟩, S1.slot, S1.dis, S1.len⟩
  have hB := hbody F1 (L.base S1) (fun s => (hrest s).base S1)
  have hn : (xs.map toD).length = xs.length := List.length_map ..
  refine ⟨fun i m σ H => m = xs.length - i ∧ i ≤ xs.length ∧ ∃ F s, Sl K F1 H0 F H σ (envS s) ∧ KP (loop (xs.drop i) s), ⟨xs.length, rfl, Nat.zero_le _, F1, s0, S11, h1⟩, ?_⟩
  rintro i m σ H ⟨rfl, hle, F, s, S, h⟩
  by_cases hlt : i < xs.length
  · refine .inr ⟨js.go i H (S.adv.f.trans S.ex) (by rw [hn]; exact hlt), fun σ' H' => ∃ F s, Sl K F1 H0 F H' σ' (envS s) ∧ KP (loop (xs.drop (i + 1)) s), fun σ' H' w => ⟨_, by omega, rfl, hlt, w⟩, fun v H' hy => ?_⟩
    obtain ⟨F2, x, a2, ex, rx⟩ := js.yld i H v H' F S.adv.f S.ex (by rw [hn]; exact hlt) hy
    rw [List.getElem?_map, List.getElem?_eq_getElem hlt] at ex
    cases ex
    refine hg xs[i] F1 H0 F2 H' σ (envS s) v _ (S.step a2) rx fun σ' S' _ _ => ?_
    have e : xs.drop i = xs[i] :: xs.drop (i + 1) := List.drop_eq_getElem_cons hlt
    rw [e] at h
    exact hB xs[i] (xs.drop (i + 1)) s _ (fun s' F H σ S h => ⟨F, s', S, h⟩) F2 H' σ' S' h
  · have e : xs.drop i = [] := List.drop_of_length_le (by omega)
    rw [e, hnil] at h
    exact .inl ⟨js.stop i H (S.adv.f.trans S.ex) (by rw [hn]; omega), (hrest s).base S1 F H σ S h⟩
theorem blk_while {S : Type} {tb : TS} (loop : Nat → S → Res τ) (test : S → Res Bool) (body : Nat → S → Res τ) (k : S → Res τ) (envS : S → En) (s0 : S) (fuel : Nat)
    (L : Lk K W F0 H0 rt PT KP) (hT : ∀ s, PT (envS s)) (h0 : EnLe env (envS s0)) (hc : ∀ s, EvT K W (envS s) tt (test s)) (l0 : ∀ s, loop 0 s = .stuck) (l1 : ∀ n s, loop (n + 1) s = (test s).bind fun b => cond b (body n s) (k s))
    (hbody : ∀ n s (N : L2.St → Hp → Prop), (∀ s', Blk K F0 H0 KP N (envS s') (loop n s')) → Blk K F0 H0 KP (tb { Z with nx := N, ct := N, bk := Z.nx }) (envS s) (body n s))
    (hrest : ∀ s, Blk K F0 H0 KP Z.nx (envS s) (k s)) : Blk K F0 H0 KP (tWhile tt tb Z) env (loop fuel s0) := fun F H σ S h => by
  refine ⟨fun n σ H => ∃ F s, Sl K F0 H0 F H σ (envS s) ∧ KP (loop n s), ⟨fuel, F, s0, S.weak h0, h⟩, ?_⟩
  rintro n σ H ⟨F, s, S, h⟩
  cases n with
  | zero => rw [l0] at h; exact (L.no h).elim
  | succ n =>
    rw [l1] at h
    refine hc s F0 H0 F H σ _ S (L.kt (hT s) S h fun b F1 H1 e1 a1 h1 => ?_)
    cases b with
    | true =>
      show ∃ N, _
      exact ⟨fun σ' H' => ∃ F s, Sl K F0 H0 F H' σ' (envS s) ∧ KP (loop n s), fun σ' H' w => ⟨n, Nat.lt_succ_self n, w⟩, hbody n s _ (fun s' F H σ S h => ⟨F, s', S, h⟩) F1 H1 σ (S.step a1) h1⟩
    | false => exact hrest s F1 H1 σ (S.step a1) h1

/-! ### comprehensions -/
def compL {α β : Type} (t : α → Res Bool) (e : α → Res β) : List α → Res (List β)
  | [] => .ok []
  | x :: r => (t x).bind fun b => cond b ((e x).bind fun y => (compL t e r).bind fun ys => .ok (y :: ys)) (compL t e r)
def mapL {α β : Type} (e : α → Res β) : List α → Res (List β)
  | [] => .ok []
  | x :: r => (e x).bind fun y => (mapL e r).bind fun ys => .ok (y :: ys)
end
end Mi
set_option maxHeartbeats 1000000
namespace Mi
open PySem PySem.Spec L2
open Evl (Ex)
section
variable {K : PySem.W.Frag} {W : WX} {F0 H0 F H F' H' F1 : Hp} {rt : VK} {PT : En → Prop} {env env' : En} {α β γ τ : Type} [ToD α] [ToD β] [ToD γ] [ToD τ] [ToR τ] {KP : Res τ → Prop} {te ta tb tc : TE} {tt : TT} {Z : Ends} {t u : TS} {T : L2.St → Hp → Prop} {σ : L2.St}

/-! ### comprehensions -/
theorem Sl.updN (S : Sl K F0 H0 F H σ env) {p : Addr} {o : HO} (hp : F p = none) (h0 : H0 p = none) (hn : ∀ (i : Nat) (sk : Sk), env[i]? = some (some sk) → sk.own = true → σ[i]? ≠ some (some (V.ref p))) : Sl K F0 H0 F (upd H p o) σ env := by
  refine ⟨⟨S.adv.f, fun a u q => ?_, fun a u q => ?_, S.adv.out⟩, fun j sk q => ?_, S.dis, S.len⟩
  · rw [upd_ne (ne_of_none q h0)]; exact S.adv.h a u q
  · rw [upd_ne (ne_of_none q hp)]; exact S.adv.in_ a u q
  · obtain ⟨w, h1, h2⟩ := S.slot j sk q
    exact ⟨w, h1, h2.updH fun o2 zz => hn j sk q o2 (by rw [h1, zz])⟩
/-- the names of a comprehension are forgotten -/
def unset : List Nat → En → En
  | [], e => e
  | i :: is, e => (unset is e).set i none
theorem unset_len (e : En) : ∀ ws : List Nat, (unset ws e).length = e.length
  | [] => rfl
  | i :: is => by show ((unset is e).set i none).length = _; rw [List.length_set, unset_len e is]
theorem unset_get {e : En} {j : Nat} {sk : Sk} : ∀ {ws : List Nat}, (unset ws e)[j]? = some (some sk) → e[j]? = some (some sk) ∧ j ∉ ws
  | [], h => ⟨h, by simp⟩
  | i :: is, h => by
    have h : ((unset is e).set i none)[j]? = some (some sk) := h
    rcases set_get h with ⟨_, z⟩ | ⟨z, h⟩
    · cases z
    · obtain ⟨h1, h2⟩ := unset_get h
      exact ⟨h1, by simp only [List.mem_cons, not_or]; exact ⟨fun e => z e.symm, h2⟩⟩
theorem Sl.wipe (S : Sl K F0 H0 F H σ env) (ws : List Nat) : Sl K F0 H0 F H (L2.wipe σ ws) (unset ws env) := by
  refine ⟨S.adv, fun i sk e => ?_, fun i j xs ys p hij e1 e2 o1 o2 h1 => ?_, by rw [wipe_length, unset_len]; exact S.len⟩
  · obtain ⟨e, hn⟩ := unset_get e
    rw [wipe_out hn]; exact S.slot i sk e
  · obtain ⟨e1, n1⟩ := unset_get e1
    obtain ⟨e2, n2⟩ := unset_get e2
    rw [wipe_out n1] at h1
    rw [wipe_out n2]
    exact S.dis i j xs ys p hij e1 e2 o1 o2 h1
theorem wipe_in {j : Nat} : ∀ {ws : List Nat}, j ∈ ws → j < σ.length → (L2.wipe σ ws)[j]? = some none
  | [], h, _ => by cases h
  | i :: is, h, hl => by
    show ((L2.wipe σ is).set i none)[j]? = some none
    by_cases e : i = j
    · subst e
      rw [List.getElem?_set_self (by rw [wipe_length]; exact hl)]
    · rw [List.getElem?_set_ne e]
      rcases List.mem_cons.mp h with z | z
      · exact absurd z.symm e
      · exact wipe_in z hl
theorem wipe_eq {σ' : L2.St} {ws : List Nat} (hl : σ'.length = (L2.wipe σ ws).length) (ho : ∀ j, j ∉ ws → σ'[j]? = (L2.wipe σ ws)[j]?) : L2.wipe σ' ws = L2.wipe σ ws := by
  rw [wipe_length] at hl
  apply List.ext_getElem?
  intro j
  by_cases hj : j ∈ ws
  · by_cases hlt : j < σ.length
    · rw [wipe_in hj hlt, wipe_in hj (by rw [hl]; exact hlt)]
    · rw [List.getElem?_eq_none (by rw [wipe_length]; omega), List.getElem?_eq_none (by rw [wipe_length]; omega)]
  · rw [wipe_out hj, ho j hj]
abbrev WT : WX := fun _ _ _ _ => True
theorem ev_comp {wi : TI} {g : TG} {m : Res (List α)} {fe : α → En → En} {ws : List Nat} {tst : α → Res Bool} {el : α → Res β} (hi : EvI K W env wi m) (hg : ∀ x, GX K g (toD x) (fe x) ws)
    (ht : ∀ x, EvT K WT (fe x (unset ws env)) tt (tst x)) (he : ∀ x, EvX K WT (fe x (unset ws env)) te (el x)) :
    EvN K W env (tLc wi g tt te ws) (m.bind fun xs => .need (xs.length ≤ 16777216) (compL tst el xs)) := fun F0 H0 F H σ Q S k => by
  refine hi F0 H0 F H σ _ S ?_
  cases m with
  | exc c => exact k
  | stuck => exact k.elim
  | ok xs =>
  intro J F1 H1 a1 js D hD
  have k : KN K W F H σ Q (.need (xs.length ≤ 16777216) (compL tst el xs)) := k
  by_cases c : xs.length ≤ 16777216
  case neg => rw [Res.need_neg c] at k; exact k.elim
  rw [Res.need_pos c] at k
  have hn : (xs.map toD).length = xs.length := List.length_map ..
  have hDF : F1 D = none := none_of_ex a1.in_ hD
  have hDH : H D = none := Evl.fresh_back a1.h hD
  have hD0 : H0 D = none := Evl.fresh_back S.adv.h hDH
  -- the new list is none of the slots'
  have hne : ∀ (i : Nat) (sk : Sk), env[i]? = some (some sk) → sk.own = true → σ[i]? ≠ some (some (V.ref D)) := fun i sk e ho z => by
    obtain ⟨v, e1, q⟩ := S.slot i _ e
    obtain ⟨p, o, rfl, _, _, q⟩ := q.at ho
    rw [e1] at z; cases z
    rw [hDH] at q; cases q
  have S1 : Sl K F0 H0 F1 (upd H1 D (.lst [])) σ env := (S.step a1).updN hDF hD0 hne
  refine ⟨fun i n H' => n = xs.length - i ∧ i ≤ xs.length ∧ ∃ F' acc vs, Sl K F0 H0 F' H' σ env ∧ Adv F H F' H' ∧ Ex F1 F' ∧ F' D = none ∧ H' D = some (.lst vs) ∧ Reps K F' (acc.map toD) vs ∧ acc.length ≤ i ∧
    (∀ ys, compL tst el (xs.drop i) = .ok ys → compL tst el xs = .ok (acc ++ ys)) ∧ (∀ c, compL tst el (xs.drop i) = .exc c → compL tst el xs = .exc c) ∧ (compL tst el (xs.drop i) = .stuck → compL tst el xs = .stuck),
    ⟨xs.length, rfl, Nat.zero_le _, F1, ([] : List β), [], S1, a1.trans (Adv.newO a1.in_ hD), Ex.refl _, hDF, upd_same, (show Reps K F1 [] [] from rfl), Nat.le_refl _, fun ys h => h, fun c h => h, fun h => h⟩, ?_⟩
  rintro i n H2 ⟨rfl, hle, F2, acc, vs, S2, a2, x2, f2, h2, r2, l2, q1, q2, q3⟩
  by_cases hlt : i < xs.length
  · refine .inr ⟨js.go i H2 (x2.trans a2.in_) (by rw [hn]; exact hlt), fun H' => (i + 1 ≤ xs.length ∧ ∃ F' acc vs, Sl K F0 H0 F' H' σ env ∧ Adv F H F' H' ∧ Ex F1 F' ∧ F' D = none ∧ H' D = some (.lst vs) ∧ Reps K F' (acc.map toD) vs ∧ acc.length ≤ i + 1 ∧
      (∀ ys, compL tst el (xs.drop (i + 1)) = .ok ys → compL tst el xs = .ok (acc ++ ys)) ∧ (∀ c, compL tst el (xs.drop (i + 1)) = .exc c → compL tst el xs = .exc c) ∧ (compL tst el (xs.drop (i + 1)) = .stuck → compL tst el xs = .stuck)),
      fun H' w => ⟨_, by omega, rfl, w⟩, fun v H3 hy => ?_⟩
    obtain ⟨F3, x, a3, ex, rx⟩ := js.yld i H2 v H3 F2 x2 a2.in_ (by rw [hn]; exact hlt) hy
    rw [List.getElem?_map, List.getElem?_eq_getElem hlt] at ex
    cases ex
    have e : xs.drop i = xs[i] :: xs.drop (i + 1) := List.drop_eq_getElem_cons hlt
    rw [e] at q1 q2 q3
    have S3 := S2.step a3
    refine hg xs[i] F0 H0 F3 H3 _ _ v _ (S3.wipe ws) rx fun σ' S' sl so => ⟨wipe_eq sl so, ?_⟩
    have f3 : F3 D = none := a3.out D f2 (by rw [h2]; simp)
    refine ht xs[i] F0 H0 F3 H3 σ' _ S' ?_
    cases qt : tst xs[i] with
    | exc c => exact fun _ _ _ => trivial
    | stuck =>
      have := q3 (by show (tst xs[i]).bind _ = _; rw [qt]; rfl)
      rw [this] at k; exact k.elim
    | ok b =>
    intro F4 H4 a4
    have f4 : F4 D = none := a4.out D f3 (by rw [a3.h _ _ h2]; simp)
    cases b with
    | false =>
      show i + 1 ≤ xs.length ∧ _
      refine ⟨hlt, F4, acc, vs, S3.step a4, (a2.trans a3).trans a4, (x2.trans a3.f).trans a4.f, f4, a4.h _ _ (a3.h _ _ h2), Reps.mono (a3.trans a4).f _ _ r2, by omega, fun ys h => ?_, fun c h => ?_, fun h => ?_⟩
      · exact q1 ys (by show (tst xs[i]).bind _ = _; rw [qt]; exact h)
      · exact q2 c (by show (tst xs[i]).bind _ = _; rw [qt]; exact h)
      · exact q3 (by show (tst xs[i]).bind _ = _; rw [qt]; exact h)
    | true =>
      show te σ' H4 _
      refine he xs[i] F0 H0 F4 H4 σ' _ (S'.step a4) ?_
      cases qe : el xs[i] with
      | exc c => exact fun _ _ _ => trivial
      | stuck =>
        have := q3 (by show (tst xs[i]).bind _ = _; rw [qt]; show (el xs[i]).bind _ = _; rw [qe]; rfl)
        rw [this] at k; exact k.elim
      | ok y =>
      intro w F5 H5 a5 r5
      have f5 : F5 D = none := a5.out D f4 (by rw [a4.h _ _ (a3.h _ _ h2)]; simp)
      have h5 : H5 D = some (.lst vs) := a5.h _ _ (a4.h _ _ (a3.h _ _ h2))
      have ad := ((a2.trans a3).trans a4).trans a5
      refine ⟨vs, h5, by rw [sizeLine_eq, ← r2.length, List.length_map]; omega, hlt, F5, acc ++ [y], vs ++ [w], ((S3.step a4).step a5).updN f5 hD0 hne, ⟨ad.f, fun a u q => ?_, fun a u q => ?_, ad.out⟩,
        ((x2.trans a3.f).trans a4.f).trans a5.f, f5, upd_same, ?_, by rw [List.length_append]; simp; omega, fun ys h => ?_, fun c h => ?_, fun h => ?_⟩
      · rw [upd_ne (ne_of_none q hDH)]; exact ad.h a u q
      · rw [upd_ne (ne_of_none q f5)]; exact ad.in_ a u q
      · rw [List.map_append]
        exact Reps.append (Reps.mono ((a3.trans a4).trans a5).f _ _ r2) (Reps.one r5)
      · rw [q1 (y :: ys) (by show (tst xs[i]).bind _ = _; rw [qt]; show (el xs[i]).bind _ = _; rw [qe]; show (compL tst el _).bind _ = _; rw [h]; rfl)]
        rw [List.append_assoc]; rfl
      · exact q2 c (by show (tst xs[i]).bind _ = _; rw [qt]; show (el xs[i]).bind _ = _; rw [qe]; show (compL tst el _).bind _ = _; rw [h]; rfl)
      · exact q3 (by show (tst xs[i]).bind _ = _; rw [qt]; show (el xs[i]).bind _ = _; rw [qe]; show (compL tst el _).bind _ = _; rw [h]; rfl)
  · have e : xs.drop i = [] := List.drop_of_length_le (by omega)
    rw [e] at q1
    have := q1 [] rfl
    rw [List.append_nil] at this
    rw [this] at k
    exact .inl ⟨js.stop i H2 (x2.trans a2.in_) (by rw [hn]; omega), k D vs F2 H2 a2 hDH f2 h2 r2⟩
theorem et_yes : EvT K W env tYes (.ok true) := fun F0 H0 F H σ Q S k => k F H (Adv.refl S.ex)

/-! ### built-in defs -/
theorem cx_len : CrX K (fun xs H Q => ∃ p ys, xs = [.ref p] ∧ (SqL K H p ys ∨ SqT K H p ys) ∧ Q (.int ys.length) H) (fun (p : List α × Unit) => .ok (p.1.length : Int)) := fun F H x vs Q e r k => by
  obtain ⟨v, r1, rfl, ⟨a, ws, rfl, hl, hr⟩, h2⟩ := r
  cases (show r1 = [] from h2)
  refine ⟨a, ws, rfl, .inl (sq_ex e hl), ?_⟩
  rw [← hr.length, List.length_map]
  exact k _ F H (Adv.refl e) rfl
theorem ev_lenO {j : Nat} {xs : List α} (h : env[j]? = some (some (.ow (xs.map toD)))) : EvX K W env (tCB (fun xs H Q => ∃ p ys, xs = [V.ref p] ∧ (SqL K H p ys ∨ SqT K H p ys) ∧ Q (.int ys.length) H) (tCons (tVar j) tNil)) (.ok (xs.length : Int)) := fun F0 H0 F H σ Q S k => by
  obtain ⟨v, e, p, vs, rfl, h0, hf, hp, hr⟩ := S.slot j _ h
  refine ⟨_, e, p, vs, rfl, .inl (.inl (.inl hp)), ?_⟩
  rw [← hr.length, List.length_map]
  exact k _ F H (Adv.refl S.ex) rfl
theorem cx_abs : CrX K (fun xs H Q => ∃ i, xs = [.int i] ∧ Q (.int (if i < 0 then -i else i)) H) (fun (p : Int × Unit) => .ok (p.1.natAbs : Int)) := fun F H x vs Q e r k => by
  obtain ⟨v, r1, rfl, h1, h2⟩ := r
  cases (show r1 = [] from h2); cases (show v = V.int x.1 from h1)
  refine ⟨x.1, rfl, ?_⟩
  have q : (if x.1 < 0 then -x.1 else x.1) = (x.1.natAbs : Int) := by split <;> omega
  rw [q]
  exact k _ F H (Adv.refl e) rfl
theorem cx_max : CrX K (fun xs H Q => ∃ i j, xs = [.int i, .int j] ∧ Q (.int (if j > i then j else i)) H) (fun (p : Int × Int × Unit) => .ok (max p.1 p.2.1)) := fun F H x vs Q e r k => by
  obtain ⟨v, r1, rfl, h1, w, r2, rfl, h2, h3⟩ := r
  cases (show r2 = [] from h3); cases (show v = V.int x.1 from h1); cases (show w = V.int x.2.1 from h2)
  refine ⟨x.1, x.2.1, rfl, ?_⟩
  have q : (if x.2.1 > x.1 then x.2.1 else x.1) = max x.1 x.2.1 := by split <;> omega
  rw [q]
  exact k _ F H (Adv.refl e) rfl
theorem cx_min : CrX K (fun xs H Q => ∃ i j, xs = [.int i, .int j] ∧ Q (.int (if j < i then j else i)) H) (fun (p : Int × Int × Unit) => .ok (min p.1 p.2.1)) := fun F H x vs Q e r k => by
  obtain ⟨v, r1, rfl, h1, w, r2, rfl, h2, h3⟩ := r
  cases (show r2 = [] from h3); cases (show v = V.int x.1 from h1); cases (show w = V.int x.2.1 from h2)
  refine ⟨x.1, x.2.1, rfl, ?_⟩
  have q : (if x.2.1 < x.1 then x.2.1 else x.1) = min x.1 x.2.1 := by split <;> omega
  rw [q]
  exact k _ F H (Adv.refl e) rfl
theorem cx_int : CrX K (fun xs H Q => (∃ i, xs = [.int i] ∧ Q (.int i) H) ∨ ∃ k, xs = [.bl k] ∧ Q (.int (if k then 1 else 0)) H) (fun (p : Int × Unit) => .ok p.1) := fun F H x vs Q e r k => by
  obtain ⟨v, r1, rfl, h1, h2⟩ := r
  cases (show r1 = [] from h2); cases (show v = V.int x.1 from h1)
  exact .inl ⟨x.1, rfl, k _ F H (Adv.refl e) rfl⟩
/-- the greatest, the least of a list that is not empty -/
def lmax : List Int → Int
  | [] => 0
  | x :: r => r.foldl max x
def lmin : List Int → Int
  | [] => 0
  | x :: r => r.foldl min x
theorem cx_sum : CrX K (rSum K) (fun (p : List Int × Unit) => .ok p.1.sum) := fun F H x vs Q e r k => by
  obtain ⟨v, r1, rfl, ⟨a, ws, rfl, hl, hr⟩, h2⟩ := r
  cases (show r1 = [] from h2)
  have e2 : ws = x.1.map V.int := Reps.ints hr
  subst e2
  exact ⟨a, x.1, rfl, sq_ex e hl, k _ F H (Adv.refl e) rfl⟩
theorem cx_all : CrX K (rAll K) (fun (p : List Bool × Unit) => .ok (p.1.all id)) := fun F H x vs Q e r k => by
  obtain ⟨v, r1, rfl, ⟨a, ws, rfl, hl, hr⟩, h2⟩ := r
  cases (show r1 = [] from h2)
  have e2 : ws = x.1.map V.bl := Reps.bls hr
  subst e2
  exact ⟨a, x.1, rfl, sq_ex e hl, k _ F H (Adv.refl e) rfl⟩
/-- list(xs): a new list -/
theorem en_list {m : Res (List α)} (h : EvX K W env te m) : EvN K W env (tCB (fun xs H Q => ∃ p ys, xs = [V.ref p] ∧ (SqL K H p ys ∨ SqT K H p ys) ∧ ∀ l, H l = none → Q (.ref l) (upd H l (.lst ys))) (tCons te tNil)) m := fun F0 H0 F H σ Q S k => by
  refine h F0 H0 F H σ _ S ?_
  cases m with
  | ok xs =>
    intro v F1 H1 a r
    obtain ⟨p, vs, rfl, h1, h2⟩ := r
    exact ⟨p, vs, rfl, .inl (sq_ex a.in_ h1), fun l hl => k l vs F1 _ (a.trans (Adv.newO a.in_ hl)) (Evl.fresh_back a.h hl) (none_of_ex a.in_ hl) upd_same h2⟩
  | exc c => exact k
  | stuck => exact k.elim
/-- tuple(xs) of a list -/
theorem ev_tupleL {m : Res (List α)} (h : EvX K W env te m) : EvX K W env (tCB (fun xs H Q => ∃ p ys, xs = [V.ref p] ∧ ((SqL K H p ys ∧ ∀ l, H l = none → Q (.ref l) (upd H l (.tup ys))) ∨ (SqT K H p ys ∧ Q (.ref p) H))) (tCons te tNil)) (m.bind fun x => .ok (Tu.mk x)) := fun F0 H0 F H σ Q S k => by
  refine h F0 H0 F H σ _ S ?_
  cases m with
  | ok xs =>
    intro v F1 H1 a r
    obtain ⟨p, vs, rfl, h1, h2⟩ := r
    refine ⟨p, vs, rfl, .inl ⟨sq_ex a.in_ h1, fun l hl => ?_⟩⟩
    have a2 : Adv F1 H1 (upd F1 l (.tup vs)) (upd H1 l (.tup vs)) := Adv.new a.in_ hl
    exact k _ _ _ (a.trans a2) ⟨l, vs, rfl, .inl (.inl upd_same), Reps.mono a2.f _ _ h2⟩
  | exc c => exact k
  | stuck => exact k.elim
/-- xs[lo:hi] -/
theorem en_slice {m : Res (List α)} {lo hi : Option Int} {tl th : TO} (h : EvX K W env te m) (hl : ∀ σ H Q, Q lo H → tl σ H Q) (hh : ∀ σ H Q, Q hi H → th σ H Q) :
    EvN K W env (tSl (rSlL K) te tl th) (m.bind fun xs => .ok ((xs.drop (HT.sIx xs.length 0 lo)).take (HT.sIx xs.length xs.length hi - HT.sIx xs.length 0 lo))) := fun F0 H0 F H σ Q S k => by
  refine h F0 H0 F H σ _ S ?_
  cases m with
  | ok xs =>
    intro v F1 H1 a r
    obtain ⟨p, vs, rfl, h1, h2⟩ := r
    refine hl _ _ _ (hh _ _ _ ⟨p, vs, rfl, sq_ex a.in_ h1, fun l hl => ?_⟩)
    refine k l _ F1 _ (a.trans (Adv.newO a.in_ hl)) (Evl.fresh_back a.h hl) (none_of_ex a.in_ hl) upd_same ?_
    have e : xs.length = vs.length := by have := h2.length; rwa [List.length_map] at this
    unfold cutV
    rw [List.map_take, List.map_drop, e]
    exact Reps.take _ (Reps.drop _ h2)
  | exc c => exact k
  | stuck => exact k.elim
theorem to_none : ∀ (σ : L2.St) (H : Hp) (Q : Option Int → Hp → Prop), Q none H → tNoPart σ H Q := fun _ _ _ q => q
theorem to_int {i : Int} : ∀ (σ : L2.St) (H : Hp) (Q : Option Int → Hp → Prop), Q (some i) H → tPart (tC (.int i)) σ H Q := fun _ _ _ q => ⟨i, rfl, q⟩

/-! ### isinstance of data -/
def tyName : D → String
  | .non => "NoneType" | .bl _ => "bool" | .int _ => "int" | .str _ => "str" | .ty _ => "type" | .tup _ => "tuple" | .lst _ => "list" | .obj _ _ _ => "object" | .ro _ => "list" | .dct _ _ => "dict"
def D.plain : D → Bool
  | .ty _ => false | .obj _ _ _ => false | .ro _ => false | .dct _ _ => false | _ => true
theorem tyx_of {x : D} {v : V} (h : Rep K F x v) (e : Ex F H) (p : x.plain = true) : TyX K H v (.type (tyName x)) := by
  cases x with
  | non => rw [show v = V.non from h]; exact .base .non
  | bl b => rw [show v = V.bl b from h]; exact .base (.bl b)
  | int b => rw [show v = V.int b from h]; exact .base (.int b)
  | str b => rw [show v = V.str b from h]; exact .base (.str b)
  | ty b => cases p
  | obj c ks ds => cases p
  | ro ds => cases p
  | dct ks ds => cases p
  | lst ds =>
    obtain ⟨a, vs, rfl, hl, _⟩ := h
    rcases sq_ex e hl with (q | ⟨o, q⟩) | ⟨o, its, n, q1, q2, _⟩
    · exact .base (.lst q)
    · exact .base (.frz q)
    · exact .kList q1 q2
  | tup ds =>
    obtain ⟨a, vs, rfl, hl, _⟩ := h
    rcases Evl.ex_t e hl with (q | ⟨o, q⟩) | ⟨o, its, n, q1, q2, _⟩
    · exact .base (.tup q)
    · exact .fTuple q
    · exact .kTuple q1 q2
/-- isinstance(x, T), T a built-in class, x any data but objects -/
def isI (n : String) (x : D) : Bool := tyName x == n || (n == "int" && tyName x == "bool")
def isiOk (n : String) : Prop := kitB "NoneType" n = some ("NoneType" == n) ∧ kitB "bool" n = some ("bool" == n || n == "int") ∧ kitB "int" n = some ("int" == n) ∧ kitB "str" n = some ("str" == n) ∧ kitB "tuple" n = some ("tuple" == n) ∧ kitB "list" n = some ("list" == n)
theorem ev_isi {n : String} {m : Res α} (hn : isiOk n) (h : EvX K W env te m) : EvX K W env (tCB (rIsi K) (tCons te (tCons (tC (.ty n)) tNil))) (m.bind fun x => .need ((toD x).plain = true) (.ok (isI n (toD x)))) := fun F0 H0 F H σ Q S k => by
  refine h F0 H0 F H σ _ S (KE.cut S.ex k fun x v F1 H1 e1 a1 r1 k1 => ?_)
  by_cases c : (toD x).plain = true
  · rw [Res.need_pos c] at k1
    refine ⟨v, .ty n, _, _, isI n (toD x), rfl, .ty n, tyx_of r1 a1.in_ c, ?_, k1 _ F1 H1 (Adv.refl a1.in_) rfl⟩
    refine kit_ty ?_
    obtain ⟨h1, h2, h3, h4, h5, h6⟩ := hn
    revert c
    generalize toD x = y
    intro c
    cases y with
    | non => rw [show tyName .non = "NoneType" from rfl, h1]; simp [isI, tyName]
    | bl b => rw [show tyName (.bl b) = "bool" from rfl, h2]; simp [isI, tyName]
    | int b => rw [show tyName (.int b) = "int" from rfl, h3]; simp [isI, tyName]
    | str b => rw [show tyName (.str b) = "str" from rfl, h4]; simp [isI, tyName]
    | tup b => rw [show tyName (.tup b) = "tuple" from rfl, h5]; simp [isI, tyName]
    | lst b => rw [show tyName (.lst b) = "list" from rfl, h6]; simp [isI, tyName]
    | ty b => cases c
    | obj a b d => cases c
    | ro a => cases c
    | dct a b => cases c
  · rw [Res.need_neg c] at k1; exact k1.elim
theorem isi_int : isiOk "int" := by unfold isiOk; decide +kernel
theorem isi_bool : isiOk "bool" := by unfold isiOk; decide +kernel
theorem isi_list : isiOk "list" := by unfold isiOk; decide +kernel
theorem isi_tuple : isiOk "tuple" := by unfold isiOk; decide +kernel
/-! ### errors -/
/-- what a body of a try gives: it falls through, or it hands back -/
inductive Fall (S τ : Type) where
  | go (s : S) | back (x : τ)
instance {S τ : Type} [ToR τ] : ToR (Fall S τ) := ⟨fun K x v H0 F H => match x with | .go _ => True | .back y => ToR.fr K y v H0 F H⟩
instance {S τ : Type} [ToR τ] [DR τ] : DR (Fall S τ) := ⟨fun K x v H0 F H => match x with | .go _ => trivial | .back y => DR.tr K y v H0 F H⟩
instance {S τ : Type} [ToD τ] : ToD (Fall S τ) := ⟨fun x => match x with | .go _ => .obj Str.empty [] [.non] | .back x => ToD.d x⟩
theorem no_go {S : Type} {s : S} {v : V} (h : Rep K F (toD (Fall.go s : Fall S τ)) v) : False := by
  obtain ⟨a, dx, vs, _, _, h3, h4⟩ := h
  obtain ⟨w, r, e, _⟩ := h4
  subst e
  simp at h3
/-- the classes of the errors: which they are, which is under which -/
structure Cls (K : PySem.W.Frag) (cs : List Str) (sub : Str → Str → Bool) : Prop where
  exc : ∀ c ∈ cs, ExcC K (He.ga K c)
  exm : ∀ c ∈ cs, ∀ d ∈ cs, PySem.W.exmOne K (.ref (He.ga K c)) (.ref (He.ga K d)) = some (sub c d)
  kit : ∀ c ∈ cs, ∀ d ∈ cs, PySem.W.kitOne K (.ref (He.ga K c)) (.ref (He.ga K d)) = some (sub c d)
  kiv : ∀ c ∈ cs, PySem.W.kitOne K (.ref (He.ga K c)) (.type "ValueError") = some true
/-- the outcome of: try body, except X -/
def tryR {S τ : Type} (known : Str → Bool) (sub : Str → Bool) (m : Res (Fall S τ)) (rest : S → Res τ) (hd : Str → Res τ) : Res τ := match m with
  | .ok (.go s) => rest s
  | .ok (.back x) => .ok x
  | .exc c => if known c = true then (if sub c = true then hd c else .exc c) else .stuck
  | .stuck => .stuck
/-- isinstance(e, C), isinstance(e, (C1, C2)) in the suite -/
def rIsE2 (K : PySem.W.Frag) (a : Addr) (cls : Value) (d : Option Addr) : List V → Hp → VK → Prop := fun xs H Q => ∃ (Dc : Addr) (c : V) (cv : Value) (b : Bool), cls = .ref Dc ∧ d = none ∧ ExcC K Dc ∧ xs = [.ref a, c] ∧ (∀ u, RelV c u → u = cv) ∧ PySem.W.kitOne K (.ref Dc) cv = some b ∧ Q (.bl b) H
def rIsET (K : PySem.W.Frag) (a : Addr) (cls : Value) (d : Option Addr) : List V → Hp → VK → Prop := fun xs H Q => ∃ (Dc tp : Addr) (cl : List V) (us : List Value) (b : Bool), cls = .ref Dc ∧ d = none ∧ ExcC K Dc ∧ xs = [.ref a, .ref tp] ∧ H tp = some (.tup cl) ∧ Paired ClsV cl us ∧ PySem.W.kitAny K (.ref Dc) us = some b ∧ Q (.bl b) H
end

/-! ### a def -/
def enStart (N : List Str) (ds : List D) : En := ds.map (fun x => some (.im x)) ++ List.replicate (N.length - ds.length) none
theorem sl_start {K : PySem.W.Frag} {F H : Hp} {N : List Str} {ds : List D} {vs : List V} (e : Ex F H) (r : Reps K F ds vs) : Sl K F H F H (L2.start N vs) (enStart N ds) := by
  have hl := r.length
  refine ⟨Adv.refl e, fun i sk q => ?_, fun i j xs ys p _ q _ oo _ _ => ?_, by simp [L2.start, enStart, hl]⟩
  · unfold enStart at q
    by_cases c : i < ds.length
    · rw [List.getElem?_append_left (by simpa using c), List.getElem?_map, List.getElem?_eq_getElem c] at q
      cases q
      obtain ⟨v, h1, h2⟩ := r.get (List.getElem?_eq_getElem c)
      refine ⟨v, ?_, h2⟩
      unfold L2.start
      rw [List.getElem?_append_left (by rw [List.length_map]; omega), List.getElem?_map, h1]; rfl
    · rw [List.getElem?_append_right (by simpa using c), List.getElem?_replicate] at q
      split at q <;> cases q
  · unfold enStart at q
    by_cases c : i < ds.length
    · rw [List.getElem?_append_left (by simpa using c), List.getElem?_map, List.getElem?_eq_getElem c] at q
      cases q; cases oo
    · rw [List.getElem?_append_right (by simpa using c), List.getElem?_replicate] at q
      split at q <;> cases q
section
variable {P : Program} {w : World} {K : PySem.W.Frag} {mg : Str → Option Value} {base : Heap} {x qual : Str} {params : Arguments} {body : List Stmt} {scope : Scope} {dvs : List V} {kws : List (Str × V)} {f : Addr} {fd : FuncData}
theorem fn_ok {N ps : List Str} {k : Nat} {β τ : Type} [ToDs β] [ToD τ] [ToR τ] {fM : β → Res τ} (F : FunD K x qual params body scope dvs kws f fd) (S : FnScope N ps scope) (hl : ∀ y : β, (ToDs.ds y).length = ps.length)
    (hbody : ∀ (cdv : Value) (A : Around) (outer : List Env) (s : Shared) (H : Hp) (E : XK), Room k (A.deeper (PyProof.Rows.envOfC qual scope s.heap.objs.size f cdv)) →
      ∃ t, PSs (cxOf (L2.CX P w) P w K mg base N qual scope f cdv A outer s H E) body t ∧
        ∀ (y : β) (F0 H0 : Hp) (Q : VK) (KP : Res τ → Prop), Lk K (fun cls d _ H => E cls d H) F0 H0 Q (fun _ => True) KP → Blk K F0 H0 KP (t { nx := fun _ H' => Q .non H', rt := Q }) (enStart N (ToDs.ds y)) (fM y)) :
    FnOk P w K mg base (L2.CX P w) (k + 1) f fd ps (spM K fM) := by
  refine F.ok S (fun vs H Q E h => ?_) (fun cdv A outer s H vs Q E hr h => ?_)
  · obtain ⟨F, y, _, r, _⟩ := h
    rw [← r.length]; exact hl y
  · obtain ⟨t, h1, h2⟩ := hbody cdv A outer s H E hr
    refine ⟨t, h1, ?_⟩
    obtain ⟨F, y, e, r, q⟩ := h
    refine h2 y F H Q (fun r => KE K (fun cls d _ H => E cls d H) F H [] Q r) ⟨fun z h v F' H' a r _ => h v F' H' a r, fun c F' H' σ env h _ S' => h F' H' S'.adv, fun z => z⟩ F H _ (sl_start e r) q
end
end Mi
set_option maxHeartbeats 1000000
namespace Mi
open PySem PySem.Spec L2
open Evl (Ex)
abbrev W0 (E : XK) : WX := fun cls d _ H => E cls d H
/-! what a value of any kind is taken for -/
def D.asInt : D → Res Int
  | .int i => .ok i
  | _ => .stuck
def D.asBool : D → Res Bool
  | .bl i => .ok i
  | _ => .stuck
def D.asStr : D → Res Str
  | .str i => .ok i
  | _ => .stuck
def D.asList : D → Res (List D)
  | .lst i => .ok i
  | _ => .stuck
def D.asTu : D → Res (Tu D)
  | .tup i => .ok ⟨i⟩
  | _ => .stuck
def intsOf : List D → Res (List Int)
  | [] => .ok []
  | .int i :: r => (intsOf r).bind fun s => .ok (i :: s)
  | _ :: _ => .stuck
def D.asInts : D → Res (List Int)
  | .lst i => intsOf i
  | _ => .stuck
theorem asInt_ok : ∀ (x : D) (y : Int), x.asInt = .ok y → toD y = x
  | .int i, y, h => by cases h; rfl
theorem asInt_x (x : D) (c : Str) : x.asInt ≠ .exc c := by cases x <;> intro h <;> cases h
theorem asList_ok : ∀ (x : D) (y : List D), x.asList = .ok y → toD y = x
  | .lst i, y, h => by cases h; show D.lst (i.map fun x => x) = _; rw [List.map_id']
theorem asList_x (x : D) (c : Str) : x.asList ≠ .exc c := by cases x <;> intro h <;> cases h
theorem asTu_ok : ∀ (x : D) (y : Tu D), x.asTu = .ok y → toD y = x
  | .tup i, y, h => by cases h; show D.tup (i.map fun x => x) = _; rw [List.map_id']
theorem asTu_x (x : D) (c : Str) : x.asTu ≠ .exc c := by cases x <;> intro h <;> cases h
theorem intsOf_ok : ∀ (x : List D) (y : List Int), intsOf x = .ok y → y.map D.int = x
  | [], y, h => by cases h; rfl
  | .int i :: r, y, h => by
    have h : (intsOf r).bind (fun s => .ok (i :: s)) = .ok y := h
    cases e : intsOf r with
    | ok z => rw [e] at h; cases h; rw [List.map_cons, intsOf_ok r z e]
    | exc c => rw [e] at h; cases h
    | stuck => rw [e] at h; cases h
theorem intsOf_x : ∀ (x : List D) (c : Str), intsOf x ≠ .exc c
  | [], c, h => by cases h
  | .int i :: r, c, h => by
    have h : (intsOf r).bind (fun s => .ok (i :: s)) = .exc c := h
    cases e : intsOf r with
    | ok z => rw [e] at h; cases h
    | exc c => exact intsOf_x r c e
    | stuck => rw [e] at h; cases h
  | .non :: _, c, h => by cases h
  | .bl _ :: _, c, h => by cases h
  | .str _ :: _, c, h => by cases h
  | .ty _ :: _, c, h => by cases h
  | .tup _ :: _, c, h => by cases h
  | .lst _ :: _, c, h => by cases h
  | .obj _ _ _ :: _, c, h => by cases h
  | .ro _ :: _, c, h => by cases h
  | .dct _ _ :: _, c, h => by cases h
theorem asInts_ok : ∀ (x : D) (y : List Int), x.asInts = .ok y → toD y = x
  | .lst i, y, h => congrArg D.lst (intsOf_ok i y h)
theorem asInts_x : ∀ (x : D) (c : Str), x.asInts ≠ .exc c
  | .lst i, c, h => intsOf_x i c h
  | .non, c, h => by cases h
  | .bl _, c, h => by cases h
  | .int _, c, h => by cases h
  | .str _, c, h => by cases h
  | .ty _, c, h => by cases h
  | .tup _, c, h => by cases h
  | .obj _ _ _, c, h => by cases h
  | .ro _, c, h => by cases h
  | .dct _ _, c, h => by cases h
theorem intsOf_map : ∀ (y : List Int), intsOf (y.map D.int) = .ok y
  | [] => rfl
  | i :: r => by show (intsOf (r.map D.int)).bind _ = _; rw [intsOf_map r]; rfl
theorem asInts_toD (y : List Int) : (toD y).asInts = .ok y := intsOf_map y
/-- xs[lo:hi] -/
def cutL {α : Type} (xs : List α) (lo hi : Option Int) : List α := (xs.drop (HT.sIx xs.length 0 lo)).take (HT.sIx xs.length xs.length hi - HT.sIx xs.length 0 lo)
section
variable {K : PySem.W.Frag} {W : WX} {F0 H0 F H F' H' F1 : Hp} {rt : VK} {PT : En → Prop} {env env' : En} {α β γ τ : Type} [ToD α] [ToD β] [ToD γ] [ToD τ] [ToR τ] {KP : Res τ → Prop} {te ta tb tc : TE} {tt : TT} {Z : Ends} {t u : TS} {T : L2.St → Hp → Prop} {σ : L2.St}
theorem ev_bits {m : Res Int} (h : EvX K W env te m) : EvX K W env (tBits te) (m.bind fun i => .ok ((Builtin.Int.intBits i : Nat) : Int)) := fun F0 H0 F H σ Q S k => by
  refine h F0 H0 F H σ _ S (KE.cut S.ex k fun x v F1 H1 e1 a1 r1 k1 => ?_)
  exact ⟨x, r1, k1 _ F1 H1 (Adv.refl a1.in_) rfl⟩
theorem ev_cast {m : Res D} {f : D → Res α} (hf : ∀ x y, f x = .ok y → toD y = x) (hx : ∀ x c, f x ≠ .exc c) (h : EvX K W env te m) : EvX K W env te (m.bind f) := fun F0 H0 F H σ Q S k => by
  refine h F0 H0 F H σ _ S ?_
  cases m with
  | ok x =>
    intro v F1 H1 a r
    have k : KE K W F H σ Q (f x) := k
    cases e : f x with
    | ok y => rw [e] at k; exact k v F1 H1 a (by rw [hf x y e]; exact r)
    | exc c => exact absurd e (hx x c)
    | stuck => rw [e] at k; exact k.elim
  | exc c => exact k
  | stuck => exact k.elim
theorem blk_if2 {m : Res Bool} {a b : Res τ} (L : Lk K W F0 H0 rt PT KP) (hT : PT env) (hc : EvT K W env tt m) (h1 : Blk K F0 H0 KP (t Z) env a) (h2 : Blk K F0 H0 KP (u Z) env b) :
    Blk K F0 H0 KP (tIfS tt t u Z) env (m.bind fun c => cond c a b) := blk_if L hT hc h1 h2
theorem blk_ifj {S : Type} (envS : S → En) (k : S → Res τ) {m : Res Bool} {a b : Res τ} (L : Lk K W F0 H0 rt PT KP) (hT : PT env) (hc : EvT K W env tt m) (hr : ∀ s, Blk K F0 H0 KP Z.nx (envS s) (k s))
    (h1 : (∀ s, Blk K F0 H0 KP Z.nx (envS s) (k s)) → Blk K F0 H0 KP (t Z) env a) (h2 : (∀ s, Blk K F0 H0 KP Z.nx (envS s) (k s)) → Blk K F0 H0 KP (u Z) env b) :
    Blk K F0 H0 KP (tIfS tt t u Z) env (m.bind fun c => cond c a b) := blk_if L hT hc (h1 hr) (h2 hr)
end
/-- try: .. except X as n: .. -/
def tTry (K : PySem.W.Frag) (c : Value) (i : Nat) (ts : Addr → Value → Option Addr → TS) (W : WX) (tb : WX → TS) : TS := fun D σ H => tb (wAs K c i ts W D) D σ H
section
variable {X : Cx} {x n : Str} {i : Nat} {c : Value} {body suite : List Stmt} {b₀ : Stmt} {np pos pos' : Pos} {tb : WX → TS} {ts : Addr → Value → Option Addr → TS} {Wout : WX}
end
section
variable {K : PySem.W.Frag} {W : WX} {F0 H0 F H F' H' F1 : Hp} {rt : VK} {PT : En → Prop} {env env' : En} {τ : Type} [ToD τ] [ToR τ] {KP : Res τ → Prop} {Z : Ends}
end
section
variable {X : Cx}
end

/-! ### the errors' facts, by one Bool -/
def eqOV (a : Option (Option Value)) (b : Value) : Bool := decide (a = some (some b))
def excCB (K : PySem.W.Frag) (C : Addr) : Bool :=
  He.eqO (PySem.W.findIn K (.ref C) "__getattribute__") (some (some (.builtin "BaseException.__getattribute__"))) && (He.eqO (PySem.W.findIn K (.ref C) "__getattr__") (some none) && (decide (PySem.W.subIn K (.ref C) (.type "BaseException") = some true) && (PySem.W.hasDictIn K C &&
    (He.eqO (PySem.W.findIn K (.ref C) "__class__") (some (some (.builtin "object.__class__"))) && (He.eqO (PySem.W.specialIn K (.builtin "object.__class__") "__get__") (some (some (.builtin "getset_descriptor.__get__"))) &&
      (decide (PySem.W.takesIn K (.builtin "object.__class__") = some true) && decide (PySem.W.mroIn K C (.type "object") = some true)))))))
theorem excC_of {K : PySem.W.Frag} {C : Addr} (h : excCB K C = true) : ExcC K C := by
  obtain ⟨h1, h⟩ := He.ba h
  obtain ⟨h2, h⟩ := He.ba h
  obtain ⟨h3, h⟩ := He.ba h
  obtain ⟨h4, h⟩ := He.ba h
  obtain ⟨h5, h⟩ := He.ba h
  obtain ⟨h6, h⟩ := He.ba h
  obtain ⟨h7, h8⟩ := He.ba h
  exact ⟨He.eqO_ok h1, He.eqO_ok h2, of_decide_eq_true h3, h4, He.eqO_ok h5, He.eqO_ok h6, of_decide_eq_true h7, of_decide_eq_true h8⟩
def clsB (K : PySem.W.Frag) (cs : List Str) (sub : Str → Str → Bool) : Bool := cs.all fun c => excCB K (He.ga K c) && ((cs.all fun d => decide (PySem.W.kitOne K (.ref (He.ga K c)) (.ref (He.ga K d)) = some (sub c d)) && decide (PySem.W.exmOne K (.ref (He.ga K c)) (.ref (He.ga K d)) = some (sub c d))) &&
  decide (PySem.W.kitOne K (.ref (He.ga K c)) (.type "ValueError") = some true))
theorem cls_of {K : PySem.W.Frag} {cs : List Str} {sub : Str → Str → Bool} (h : clsB K cs sub = true) : Cls K cs sub := by
  have h1 : ∀ c ∈ cs, _ := fun c hc => He.ba (List.all_eq_true.mp h c hc)
  refine ⟨fun c hc => excC_of (h1 c hc).1, fun c hc d hd => ?_, fun c hc d hd => ?_, fun c hc => ?_⟩
  · exact of_decide_eq_true (He.ba (List.all_eq_true.mp (He.ba (h1 c hc).2).1 d hd)).2
  · exact of_decide_eq_true (He.ba (List.all_eq_true.mp (He.ba (h1 c hc).2).1 d hd)).1
  · exact of_decide_eq_true (He.ba (h1 c hc).2).2
end Mi
set_option maxHeartbeats 1000000
namespace Mi
open PySem PySem.Spec L2
open Evl (Ex)
theorem walk_end {l : PySem.W.OpenLaw} {n k : Nat} {q : Program} {loose : List Str} {XP : (Str → Option Value) → Heap → Prop} {YP : World → Heap → Prop} {d : PySem.DefRec} {x : Str} {m : Ro Int → Res Bool}
    (hn : l.most = some n) (hn2 : n ≤ sizeLine) (hdf : d.params.defaults = []) (hr : Room k PySem.callerA)
    (F : ∀ (w : World) (mg : Str → Option Value) (fa : Addr) (h : Heap), YP w h → h.Ns mainGlobals mg → mg d.name = some (.ref fa) →
      ∃ (K : PySem.W.Frag) (fd : FuncData), K.In h ∧ (∀ (s : Shared) (u : Value), PySem.BindsTo s fd ⟨[u], []⟩ [(x, u)]) ∧
        ∀ base : Heap, K.In base → base.Ns mainGlobals mg → FnOk l.prog w K mg base (L2.CX l.prog w) k fa fd [x] (spM K (fun (p : Ro Int × Unit) => m p.1)))
    (ht : ∀ ns : List Int, ns.length ≤ n → (∀ i ∈ ns, Builtin.Int.intBits i ≤ 1048576) → m ⟨ns⟩ = .ok true) :
    PySem.W.WalkO q loose XP YP l.row.toRowW d [] (fun f vs => PySem.call f vs) := by
  refine Att.attach_callB hn hdf fun w s₀ s₁ mg mb fa o pm cd doc a vs ns G Y ho hd hcd hmg hobj hints hlen hbits hg => ?_
  obtain ⟨K, fd, KX, hb, hF⟩ := F w mg fa _ Y G.T.g hmg
  refine law_call KX G.T.g G.T.b G.T.builtins G.T.nolimit hg hobj hints (Nat.le_trans hlen hn2) hr hF hb (fun H hO hS => ?_) fun H e s' z => ?_
  · refine ⟨H, (⟨ns⟩, ()), Ex.refl H, ⟨.ref a, [], rfl, ⟨a, ns.map V.int, rfl, hS, Reps.of_ints ns⟩, rfl⟩, ?_⟩
    show KE K _ H H [] _ (m ⟨ns⟩)
    rw [ht ns hlen hbits]
    exact fun v F' H' _ r => r
  · obtain ⟨_, _, _, _, _, _, _, _, _, _, _, _, z⟩ := z
    exact z
end Mi
set_option maxHeartbeats 1000000
namespace Mi
open PySem PySem.Spec L2
open Evl (Ex)
abbrev rLenS (K : PySem.W.Frag) : List V → Hp → VK → Prop := fun xs H Q => ∃ p ys, xs = [.ref p] ∧ (SqL K H p ys ∨ SqT K H p ys) ∧ Q (.int ys.length) H
theorem cr_len {X : Cx} {K : PySem.W.Frag} (h : X.K = K) : CallR X (.builtin "len") (rLenS K) := by
  subst h; exact call_len_seq
theorem cr_ixL {X : Cx} {K : PySem.W.Frag} (h : X.K = K) : IxR X (rIxL K) := by
  subst h; exact ix_list
theorem cr_slL {X : Cx} {K : PySem.W.Frag} (h : X.K = K) : SlR X (rSlL K) := by
  subst h; exact sl_list
section
variable {K : PySem.W.Frag} {W : WX} {F0 H0 F H F' H' F1 : Hp} {rt : VK} {PT : En → Prop} {env env' : En} {α β γ τ : Type} [ToD α] [ToD β] [ToD γ] [ToD τ] [ToR τ] {KP : Res τ → Prop} {te ta tb tc : TE} {tt : TT} {Z : Ends} {t u : TS} {T : L2.St → Hp → Prop} {σ : L2.St}
/-- xs[::-1] -/
theorem en_rev {m : Res (List α)} (h : EvX K W env te m) : EvN K W env (tRevL K te) (m.bind fun xs => .ok xs.reverse) := fun F0 H0 F H σ Q S k => by
  refine h F0 H0 F H σ _ S ?_
  cases m with
  | ok xs =>
    intro v F1 H1 a r
    obtain ⟨p, vs, rfl, h1, h2⟩ := r
    refine ⟨p, vs, rfl, sq_ex a.in_ h1, fun l hl => ?_⟩
    refine k l _ F1 _ (a.trans (Adv.newO a.in_ hl)) (Evl.fresh_back a.h hl) (none_of_ex a.in_ hl) upd_same ?_
    rw [List.map_reverse]
    exact Reps.reverse h2
  | exc c => exact k
  | stuck => exact k.elim
/-- the parts of a text of an error -/
def EvJ (K : PySem.W.Frag) (W : WX) (env : En) (ts : List TE) (N : Nat) (m : Res Unit) : Prop :=
  ∀ F0 H0 F H σ acc (Q : Str → Hp → Prop), Sl K F0 H0 F H σ env → acc.length + N ≤ sizeLine → KE K W F H σ (fun _ H' => ∀ out, Q out H') m → tJs ts acc σ H Q
theorem ej_nil : EvJ K W env [] 0 (.ok ()) := fun F0 H0 F H σ acc Q S hn k => k .non F H (Adv.refl S.ex) rfl acc
theorem ej_txt {x : Str} {n N : Nat} {ts : List TE} {m : Res Unit} (hx : x.length ≤ n) (h : EvJ K W env ts N m) : EvJ K W env (tC (.str x) :: ts) (n + N) m := fun F0 H0 F H σ acc Q S hn k => by
  have e : (acc ++ x).length = acc.length + x.length := Str.length_append ..
  exact ⟨x, rfl, by omega, h F0 H0 F H σ (acc ++ x) Q S (by omega) k⟩
theorem ej_int {te : TE} {N : Nat} {ts : List TE} {m1 : Res Int} {m : Res Unit} (h1 : EvX K W env te m1) (h : EvJ K W env ts N m) : EvJ K W env (tFmt te :: ts) (1000 + N) (m1.bind fun i => .need (i.natAbs.log2 < 1920 ∧ (toString i : Str).length ≤ 1000) m) := fun F0 H0 F H σ acc Q S hn k => by
  refine h1 F0 H0 F H σ _ S (k.cut S.ex fun i v F1 H1 e1 a1 r1 k1 => ?_)
  have r1 : v = V.int i := r1
  subst r1
  by_cases q : i.natAbs.log2 < 1920 ∧ (toString i : Str).length ≤ 1000
  · rw [Res.need_pos q] at k1
    have e : (acc ++ toString i).length = acc.length + (toString i : Str).length := Str.length_append ..
    exact .inr ⟨i, rfl, q.1, toString i, rfl, by omega, h F0 H0 F1 H1 σ _ Q (S.step a1) (by omega) k1⟩
  · rw [Res.need_neg q] at k1; exact k1.elim
theorem blk_raiseJ {c : Str} {m : Res Unit} {ts : List TE} {N : Nat} (L : Lk K W F0 H0 rt PT KP) (hT : PT env) (hN : N ≤ sizeLine) (he : EvJ K W env ts N m) : Blk K F0 H0 KP (fun σ H => tJs ts Str.empty σ H fun _ H1 => W (.ref (He.ga K c)) none σ H1) env (m.bind fun _ => .exc c) := fun F H σ S h => by
  refine he F0 H0 F H σ _ _ S (by show 0 + N ≤ _; omega) (L.ke hT S h fun x v F1 H1 e1 a1 r1 h1 => ?_)
  exact fun _ => L.exc c F1 H1 σ env h1 hT (S.step a1)
end
end Mi
set_option maxHeartbeats 1000000
namespace Mi
open PySem PySem.Spec L2
open Evl (Ex)

/-! ### own classes: rules with what is raised at the caller's slots -/
section
variable {X : Cx} {CX : CXT} {k : Nat} {f C : Addr} {fd : FuncData} {ps : List Str} {sp : Sp} {E : L2.St → XK} {x m : Str} {p pos apos : Pos} {e o : Expr} {es : List Expr} {ta : TE} {t : TA}
def tMethQ (C : Addr) (m : Str) (sp : Sp) (E : L2.St → XK) (ta : TE) (t : TA) : TE := fun σ H Q => ta σ H fun x H1 => ∃ a dx fs, x = .ref a ∧ H1 a = some (.ins C dx fs) ∧ fs.lookup m = none ∧ t σ H1 fun vs H2 => sp (x :: vs) H2 Q (E σ)
def tMakeQ (C : Addr) (sp : Sp) (E : L2.St → XK) (t : TA) : TE := fun σ H Q => t σ H fun vs H1 => ∀ x dx, H1 x = none → H1 dx = none → dx ≠ x → sp (.ref x :: vs) (upd (upd H1 dx (.own x)) x (.ins C dx [])) (fun v H2 => v = .non ∧ Q (.ref x) H2) (E σ)
end

/-! ### fields by their place -/
def posK (f : Str) : List Str → Option Nat
  | [] => none
  | g :: r => if g = f then some 0 else (posK f r).map (· + 1)
section
variable {K : PySem.W.Frag} {W : WX} {F0 H0 F H F' H' F1 : Hp} {rt : VK} {PT : En → Prop} {env env' : En} {α β γ τ : Type} [ToD α] [ToD β] [ToD γ] [ToD τ] [ToR τ] {KP : Res τ → Prop} {te ta tb tc : TE} {tt : TT} {Z : Ends} {t u : TS} {T : L2.St → Hp → Prop} {σ : L2.St}
/-- the heap without an object that a def changes -/
def hide (H : Hp) (p : Addr) : Hp := fun q => if q = p then none else H q
theorem hide_ne {H : Hp} {p q : Addr} (h : q ≠ p) : hide H p q = H q := if_neg h
/-- the promise of an __init__ -/
def KIn (K : PySem.W.Frag) (F H : Hp) (p : Addr) (Q : VK) (E : XK) : Res α → Prop
  | .ok x => ∀ F' H', Adv F (hide H p) F' H' → Rep K F' (toD x) (.ref p) → Q .non H'
  | .exc c => ∀ F' H', Adv F (hide H p) F' H' → E (.ref (He.ga K c)) none H'
  | .stuck => False
def spI (K : PySem.W.Frag) (c : Str) {δ : Type} [ToDs δ] (f : δ → Res α) : Sp := fun vs H Q E => ∃ F y p dx ws, vs = .ref p :: ws ∧ Ex F H ∧ F p = none ∧ H p = some (.ins (He.ga K c) dx []) ∧ Reps K F (ToDs.ds y) ws ∧ KIn K F H p Q E (f y)
end
section
variable {P : Program} {w : World} {K : PySem.W.Frag} {mg : Str → Option Value} {base : Heap} {x qual : Str} {params : Arguments} {body : List Stmt} {scope : Scope} {dvs : List V} {kws : List (Str × V)} {f : Addr} {fd : FuncData}
end
end Mi
namespace Mi
open PySem PySem.Spec L2
open Evl (Ex)
structure T5 (α β γ δ ε : Type) where
  a : α
  b : β
  c : γ
  e : δ
  f : ε
structure T6 (α β γ δ ε ζ : Type) where
  a : α
  b : β
  c : γ
  e : δ
  f : ε
  g : ζ
structure T8 (α β γ δ ε ζ η θ : Type) where
  a : α
  b : β
  c : γ
  e : δ
  f : ε
  g : ζ
  h : η
  i : θ
instance {α β γ δ ε : Type} [ToD α] [ToD β] [ToD γ] [ToD δ] [ToD ε] : ToD (T5 α β γ δ ε) := ⟨fun x => .tup [ToD.d x.a, ToD.d x.b, ToD.d x.c, ToD.d x.e, ToD.d x.f]⟩
instance {α β γ δ ε ζ : Type} [ToD α] [ToD β] [ToD γ] [ToD δ] [ToD ε] [ToD ζ] : ToD (T6 α β γ δ ε ζ) := ⟨fun x => .tup [ToD.d x.a, ToD.d x.b, ToD.d x.c, ToD.d x.e, ToD.d x.f, ToD.d x.g]⟩
instance {α β γ δ ε ζ η θ : Type} [ToD α] [ToD β] [ToD γ] [ToD δ] [ToD ε] [ToD ζ] [ToD η] [ToD θ] : ToD (T8 α β γ δ ε ζ η θ) := ⟨fun x => .tup [ToD.d x.a, ToD.d x.b, ToD.d x.c, ToD.d x.e, ToD.d x.f, ToD.d x.g, ToD.d x.h, ToD.d x.i]⟩
def optGet {α : Type} : Option α → Res α
  | some x => .ok x
  | none => .stuck
def D.asT1 : D → Res (T1 D)
  | .tup [a] => .ok ⟨a⟩
  | _ => .stuck
def D.asT2 : D → Res (T2 D D)
  | .tup [a, b] => .ok ⟨a, b⟩
  | _ => .stuck
def D.asT3 : D → Res (T3 D D D)
  | .tup [a, b, c] => .ok ⟨a, b, c⟩
  | _ => .stuck
def D.lenR : D → Res Int
  | .tup xs => .ok (xs.length : Int)
  | .lst xs => .ok (xs.length : Int)
  | _ => .stuck
section
variable {K : PySem.W.Frag} {W : WX} {F0 H0 F H F' H' F1 : Hp} {rt : VK} {PT : En → Prop} {env env' : En} {α β γ τ : Type} [ToD α] [ToD β] [ToD γ] [ToD τ] [ToR τ] {KP : Res τ → Prop} {te ta tb tc : TE} {tt : TT} {Z : Ends} {t u : TS} {T : L2.St → Hp → Prop} {σ : L2.St}
theorem ev_lenD {m : Res D} (h : EvX K W env te m) : EvX K W env (tCB (rLenS K) (tCons te tNil)) (m.bind fun x => D.lenR x) := fun F0 H0 F H σ Q S k => by
  refine h F0 H0 F H σ _ S (KE.cut S.ex k fun x v F1 H1 e1 a1 r1 k1 => ?_)
  have k1 : KE K W F1 H1 σ Q (D.lenR x) := k1
  cases x with
  | tup xs =>
    obtain ⟨a, vs, rfl, h2, h3⟩ := r1
    refine ⟨a, vs, rfl, .inr (Evl.ex_t a1.in_ h2), ?_⟩
    have := k1 (.int xs.length) F1 H1 (Adv.refl a1.in_) rfl
    rw [← h3.length]; exact this
  | lst xs =>
    obtain ⟨a, vs, rfl, h2, h3⟩ := r1
    refine ⟨a, vs, rfl, .inl (sq_ex a1.in_ h2), ?_⟩
    have := k1 (.int xs.length) F1 H1 (Adv.refl a1.in_) rfl
    rw [← h3.length]; exact this
  | _ => exact k1.elim
end
end Mi
set_option maxHeartbeats 1000000
namespace Mi
open PySem PySem.Spec L2
open Evl (Ex)
def CPowX (i j : Int) : Prop := 0 ≤ j ∧ (Builtin.Int.intBits i : Int) * j ≤ 2 ^ 27
end Mi
namespace Mi
open PySem PySem.Spec L2
/-- a promise of nothing -/
theorem fnok_stuck {P : Program} {w : World} {K : PySem.W.Frag} {mg : Str → Option Value} {base : Heap} {k : Nat} {f : Addr} {fd : FuncData} {ps : List Str} {β τ : Type} [ToDs β] [ToD τ] (fM : β → Res τ) (h : ∀ y, fM y = .stuck) : FnOk P w K mg base (L2.CX P w) k f fd ps (spM K fM) := by
  have no : ∀ vs H Q E, ¬ spM K fM vs H Q E := by
    rintro vs H Q E ⟨F, x, _, _, q⟩
    rw [h x] at q
    exact q
  exact ⟨fun vs H Q E q => absurd q (no _ _ _ _), fun A outer s H args us vs Q E _ _ _ _ q => absurd q (no _ _ _ _)⟩
end Mi
set_option maxHeartbeats 1000000
namespace Mi
open PySem PySem.Spec L2
open Evl (Ex)
structure T7 (α β γ δ ε ζ η : Type) where
  a : α
  b : β
  c : γ
  e : δ
  f : ε
  g : ζ
  h : η
instance {α β γ δ ε ζ η : Type} [ToD α] [ToD β] [ToD γ] [ToD δ] [ToD ε] [ToD ζ] [ToD η] : ToD (T7 α β γ δ ε ζ η) := ⟨fun x => .tup [ToD.d x.a, ToD.d x.b, ToD.d x.c, ToD.d x.e, ToD.d x.f, ToD.d x.g, ToD.d x.h]⟩

/-! ### the module's constants -/
def tupB (K : PySem.W.Frag) (a : Addr) : Option (List Value) := match K.lookup a with
  | some o => match o.data with
    | .seq its n => if o.cls = .type "tuple" ∧ its.size ≤ sizeLine then some its.toList else none
    | _ => none
  | none => none
mutual
def repB (K : PySem.W.Frag) : D → Value → Bool
  | .non, u => decide (u = .none)
  | .bl b, u => decide (u = .bool b)
  | .int i, .int j _ => decide (j = i)
  | .str s, .str z _ => decide (z = s)
  | .ty n, u => decide (u = .type n)
  | .tup ds, .ref a => (match tupB K a with
    | some us => repsB K ds us
    | none => false)
  | _, _ => false
def repsB (K : PySem.W.Frag) : List D → List Value → Bool
  | [], us => us.isEmpty
  | d :: ds, u :: us => repB K d u && repsB K ds us
  | _ :: _, [] => false
end
theorem tupB_ok {K : PySem.W.Frag} {a : Addr} {us : List Value} (h : tupB K a = some us) {xs : List V} (r : Vals xs us) (F : Hp) : SqT K F a xs := by
  unfold tupB at h
  split at h
  · rename_i o e
    split at h
    · rename_i its n ed
      split at h
      · rename_i hc
        cases h
        exact .inr ⟨o, its, n, e, hc.1, ed, hc.2, r⟩
      · cases h
    · cases h
  · cases h
mutual
theorem repB_ok {K : PySem.W.Frag} : ∀ (d : D) (u : Value), repB K d u = true → ∃ v, RelV v u ∧ ∀ F, Rep K F d v
  | .non, u, h => ⟨.non, (of_decide_eq_true (show decide (u = Value.none) = true from h) : u = Value.none), fun _ => rfl⟩
  | .bl b, u, h => ⟨.bl b, (of_decide_eq_true (show decide (u = Value.bool b) = true from h) : u = Value.bool b), fun _ => rfl⟩
  | .ty n, u, h => ⟨.ty n, (of_decide_eq_true (show decide (u = Value.type n) = true from h) : u = Value.type n), fun _ => rfl⟩
  | .int i, u, h => by
    cases u with
    | int j t => exact ⟨.int i, ⟨t, by rw [of_decide_eq_true (show decide (j = i) = true from h)]⟩, fun _ => rfl⟩
    | _ => cases h
  | .str s, u, h => by
    cases u with
    | str z t => exact ⟨.str s, ⟨t, by rw [of_decide_eq_true (show decide (z = s) = true from h)]⟩, fun _ => rfl⟩
    | _ => cases h
  | .tup ds, u, h => by
    cases u with
    | ref a =>
      rw [repB] at h
      split at h
      · rename_i us e
        obtain ⟨xs, r, hr⟩ := repsB_ok ds us h
        exact ⟨.ref a, rfl, fun F => ⟨a, xs, rfl, tupB_ok e r F, hr F⟩⟩
      · cases h
    | _ => cases h
  | .lst ds, u, h => by cases u <;> cases h
  | .obj c ks ds, u, h => by cases u <;> cases h
  | .ro ds, u, h => by cases u <;> cases h
  | .dct ks ds, u, h => by cases u <;> cases h
theorem repsB_ok {K : PySem.W.Frag} : ∀ (ds : List D) (us : List Value), repsB K ds us = true → ∃ xs, Vals xs us ∧ ∀ F, Reps K F ds xs
  | [], us, h => by
    cases us with
    | nil => exact ⟨[], .nil, fun _ => rfl⟩
    | cons u us => cases h
  | d :: ds, us, h => by
    cases us with
    | nil => cases h
    | cons u us =>
      rw [repsB] at h
      obtain ⟨h1, h2⟩ := He.ba h
      obtain ⟨v, r, hv⟩ := repB_ok d u h1
      obtain ⟨xs, rs, hx⟩ := repsB_ok ds us h2
      exact ⟨v :: xs, .cons r rs, fun F => ⟨v, xs, rfl, hv F, hx F⟩⟩
end
def conB (K : PySem.W.Frag) (cs : List (Str × D)) : Bool := cs.all fun c => match PySem.W.nsIn K mainGlobals c.1 with
  | some (some u) => repB K c.2 u
  | _ => false
/-- a name of the module that stands for data -/
def ConF (K : PySem.W.Frag) (mg : Str → Option Value) (x : Str) (d : D) : Prop := ∃ u v, mg x = some u ∧ RelV v u ∧ ∀ F, Rep K F d v
section
variable {K : PySem.W.Frag} {mg : Str → Option Value} {x : Str} {d : D}
noncomputable def ConF.u (h : ConF K mg x d) : Value := h.choose
noncomputable def ConF.v (h : ConF K mg x d) : V := h.choose_spec.choose
theorem ConF.m (h : ConF K mg x d) : mg x = some h.u := h.choose_spec.choose_spec.1
theorem ConF.r (h : ConF K mg x d) : RelV h.v h.u := h.choose_spec.choose_spec.2.1
theorem ConF.p (h : ConF K mg x d) (F : Hp) : Rep K F d h.v := h.choose_spec.choose_spec.2.2 F
end
/-! ### lists that are only read -/
section
variable {K : PySem.W.Frag} {W : WX} {F0 H0 F H F' H' F1 : Hp} {env : En} {α β γ : Type} [ToD α] [ToD β] [ToD γ] {te ta tb : TE}
theorem opx_ixR : OpX K (rIxL K) (fun (xs : Ro α) (i : Int) => idx xs.xs i) := fun F H xs i v u Q e h1 h2 k => by
  obtain ⟨a, vs, rfl, hl, hr⟩ := h1
  cases (show u = V.int i from h2)
  dsimp only [idx] at k
  cases q : atI xs.xs i with
  | none => rw [q] at k; exact k.elim
  | some x =>
    rw [q] at k
    obtain ⟨w, hw, rw_⟩ := Reps.at (i := i) hr (x := toD x) (by rw [atI_map, q]; rfl)
    exact ⟨a, vs, i, w, rfl, rfl, Evl.ex_l e hl, hw, k _ F H (Adv.refl e) rw_⟩
theorem cx_lenRo : CrX K (rLenS K) (fun (p : Ro α × Unit) => .ok (p.1.xs.length : Int)) := fun F H x vs Q e r k => by
  obtain ⟨v, rs, rfl, r1, r2⟩ := r
  cases (show rs = [] from r2)
  obtain ⟨a, ws, rfl, hl, hr⟩ := r1
  refine ⟨a, ws, rfl, .inl (Evl.ex_l e hl), ?_⟩
  have := k (.int (x.1.xs.length : Int)) F H (Adv.refl e) rfl
  have l := hr.length
  rw [List.length_map] at l
  rw [← l]; exact this
/-! ### joined and repeated lists -/
theorem en_cat {m1 m2 : Res (List α)} (ha : EvX K W env ta m1) (hb : EvX K W env tb m2) : EvN K W env (tOp rCat ta tb) (m1.bind fun x => m2.bind fun y => .need (x.length + y.length ≤ 16777216) (.ok (x ++ y))) := fun F0 H0 F H σ Q S k => by
  refine ha F0 H0 F H σ _ S ?_
  cases m1 with
  | ok x =>
    intro v F1 H1 a1 r1
    refine hb F0 H0 F1 H1 σ _ (S.step a1) ?_
    cases m2 with
    | ok y =>
      intro u F2 H2 a2 r2
      have k : KN K W F H σ Q (Res.need (x.length + y.length ≤ 16777216) (.ok (x ++ y))) := k
      by_cases c : x.length + y.length ≤ 16777216
      · rw [Res.need_pos c] at k
        obtain ⟨p, vs, rfl, h1, h2⟩ := r1
        obtain ⟨q, ws, rfl, g1, g2⟩ := r2
        have l1 := h2.length
        have l2 := g2.length
        rw [List.length_map] at l1 l2
        refine ⟨p, q, vs, ws, rfl, rfl, a2.h _ _ (a1.in_ _ _ h1), a2.in_ _ _ g1, ?_, fun z hz => ?_⟩
        · rw [← l1, ← l2]; exact c
        · refine k z (vs ++ ws) F2 _ ((a1.trans a2).trans (Adv.newO a2.in_ hz)) (Evl.fresh_back (a1.trans a2).h hz) (none_of_ex a2.in_ hz) upd_same ?_
          rw [List.map_append]
          exact Reps.append (Reps.mono a2.f _ _ h2) g2
      · rw [Res.need_neg c] at k; exact k.elim
    | exc c => exact fun F2 H2 a2 => k F2 H2 (a1.trans a2)
    | stuck => exact k.elim
  | exc c => exact k
  | stuck => exact k.elim
theorem Reps.flat {xs : List D} {vs : List V} (h : Reps K F xs vs) : ∀ n : Nat, Reps K F (List.replicate n xs).flatten (List.replicate n vs).flatten
  | 0 => rfl
  | n + 1 => by
    rw [List.replicate_succ, List.replicate_succ, List.flatten_cons, List.flatten_cons]
    exact Reps.append h (Reps.flat h n)
def RepOk (n : Nat) (k : Int) : Prop := -(2 ^ 63) ≤ k ∧ k < 2 ^ 63 ∧ n * k.toNat ≤ 16777216
theorem en_rep {m1 : Res (List α)} {m2 : Res Int} (ha : EvX K W env ta m1) (hb : EvX K W env tb m2) : EvN K W env (tOp rRep ta tb) (m1.bind fun x => m2.bind fun y => .need (RepOk x.length y) (.ok (List.replicate y.toNat x).flatten)) := fun F0 H0 F H σ Q S k => by
  refine ha F0 H0 F H σ _ S ?_
  cases m1 with
  | ok x =>
    intro v F1 H1 a1 r1
    refine hb F0 H0 F1 H1 σ _ (S.step a1) ?_
    cases m2 with
    | ok y =>
      intro u F2 H2 a2 r2
      have k : KN K W F H σ Q (Res.need (RepOk x.length y) (.ok (List.replicate y.toNat x).flatten)) := k
      by_cases c : RepOk x.length y
      · rw [Res.need_pos c] at k
        obtain ⟨p, vs, rfl, h1, h2⟩ := r1
        cases (show u = V.int y from r2)
        have l1 := h2.length
        rw [List.length_map] at l1
        refine ⟨p, y, vs, rfl, rfl, a2.h _ _ (a1.in_ _ _ h1), c.1, c.2.1, ?_, fun z hz => ?_⟩
        · rw [← l1]; exact c.2.2
        · refine k z _ F2 _ ((a1.trans a2).trans (Adv.newO a2.in_ hz)) (Evl.fresh_back (a1.trans a2).h hz) (none_of_ex a2.in_ hz) upd_same ?_
          have := Reps.flat h2 y.toNat
          rw [List.map_flatten, List.map_replicate]
          exact Reps.mono a2.f _ _ this
      · rw [Res.need_neg c] at k; exact k.elim
    | exc c => exact fun F2 H2 a2 => k F2 H2 (a1.trans a2)
    | stuck => exact k.elim
  | exc c => exact k
  | stuck => exact k.elim
end
end Mi
set_option maxHeartbeats 1000000
namespace Mi
open PySem PySem.Spec L2 PyProof.Rows
open Evl (Ex)
/-! ### xs[i] += e -/
def rGetL : V → V → Hp → VK → Prop := fun o i H Q => ∃ p xs k v, o = .ref p ∧ i = .int k ∧ H p = some (.lst xs) ∧ 0 ≤ k ∧ xs[k.toNat]? = some v ∧ Q v H
section
variable {K : PySem.W.Frag} {W : WX} {F0 H0 F H F' H' F1 : Hp} {rt : VK} {PT : En → Prop} {env env' : En} {τ : Type} [ToD τ] [ToR τ] {KP : Res τ → Prop} {te ta tb tc : TE} {Z : Ends}
end
end Mi
set_option maxHeartbeats 1000000
namespace Mi
open PySem PySem.Spec L2
open Evl (Ex)
section
variable {K : PySem.W.Frag}
/-! ### x in a list or tuple of ints, of texts -/
theorem flat_intV : ∀ ns : List Int, (ns.map V.int).all flatV = true
  | [] => rfl
  | n :: ns => by rw [List.map_cons, List.all_cons, flat_intV ns]; rfl
theorem in_intV (x : Int) : ∀ ns : List Int, inV (.int x) (ns.map V.int) = decide (x ∈ ns)
  | [] => by simp [inV]
  | n :: ns => by
    have ih := in_intV x ns
    unfold inV at ih ⊢
    rw [List.map_cons, List.any_cons, ih]
    by_cases h : x = n
    · subst h; simp [eqV]
    · have : (n == x) = false := by simp; exact fun z => h z.symm
      simp [eqV, h, this]
/-- what holds items -/
class Holds (σ : Type) (α : Type) [ToD α] [ToD σ] where
  xs : σ → List α
  at_ : ∀ (K : PySem.W.Frag) (F H : Hp) (y : σ) (u : V), Ex F H → Rep K F (toD y) u → ∃ p vs, u = .ref p ∧ (SqL K H p vs ∨ SqT K H p vs) ∧ Reps K F ((xs y).map toD) vs
instance {α : Type} [ToD α] : Holds (List α) α := ⟨fun x => x, fun K F H y u e h => by
  obtain ⟨a, vs, rfl, hl, hr⟩ := h
  exact ⟨a, vs, rfl, .inl (sq_ex e hl), hr⟩⟩
instance {α : Type} [ToD α] : Holds (Ro α) α := ⟨fun x => x.xs, fun K F H y u e h => by
  obtain ⟨a, vs, rfl, hl, hr⟩ := h
  exact ⟨a, vs, rfl, .inl (Evl.ex_l e hl), hr⟩⟩
instance {α : Type} [ToD α] : Holds (Tu α) α := ⟨fun x => x.xs, fun K F H y u e h => by
  obtain ⟨a, vs, rfl, hl, hr⟩ := h
  exact ⟨a, vs, rfl, .inr (Evl.ex_t e hl), hr⟩⟩
theorem opx_inI {σ : Type} [ToD σ] [Hd : Holds σ Int] (neg : Bool) : OpX K (rIn K neg) (fun (x : Int) (ys : σ) => .ok (if neg then !decide (x ∈ Hd.xs ys) else decide (x ∈ Hd.xs ys))) := fun F H x y v u Q e h1 h2 k => by
  obtain ⟨p, vs, rfl, hq, hr⟩ := Hd.at_ K F H y u e h2
  cases (show v = V.int x from h1)
  have hr : Reps K F ((Hd.xs y).map D.int) vs := hr
  have q := hr.ints
  subst q
  refine ⟨p, _, rfl, hq, rfl, flat_intV _, ?_⟩
  rw [in_intV]
  exact k _ F H (Adv.refl e) rfl
end
end Mi
set_option maxHeartbeats 1000000
namespace Mi
open PySem PySem.Spec PyProof.Rows L2
open Evl (Ex)
/-! ### a method whose last row is super().__init__(..) -/
structure FnScopeS (N P : List Str) (sc : Scope) : Prop where
  kind : sc.kind = .function
  co : sc.isCoroutine = false
  gen : sc.isGenerator = false
  nd : N.Nodup
  pre : N.take P.length = P
  par : ∀ x ∈ P, sc.names.lookup x = some .local
  nocell : ∀ y ∈ sc.names, y.2 ≠ .cell
  only : ∀ y ∈ sc.names, y.2 = .free → y.1 = ("__class__" : Str)
  sup : sc.names.lookup ("super" : Str) = some .globalImplicit
  cls : sc.names.lookup ("__class__" : Str) = some .free
/-- where it stands -/
structure FunS (K : PySem.W.Frag) (x qual : Str) (params : Arguments) (body : List Stmt) (scope : Scope) (f cc cda D : Addr) (file : Str) (fd : FuncData) : Prop where
  ex : ∃ (oc : Value) (od : Option Addr) (doc pm : Value) (an : Option Addr) (ct : Value) (osl : Array (Option Value)), fd = PySem.W.ksFn x qual params body scope .none .none doc pm an (.ref cda) ct cc ∧ K.lookup f = some ⟨oc, od, .func fd, osl⟩ ∧ PySem.W.codeIn K (.ref cda) qual = true
  kp : PySem.W.keepIn K (.ref f) = true
  code : ∃ (ccl : Value) (cdd : Option Addr) (vs : Array Value) (ccs : Array (Option Value)) (tf : Tok), K.lookup cda = some ⟨ccl, cdd, .fields vs, ccs⟩ ∧ vs[2]? = some (.str file tf)
  cell : ∃ (cl : Value) (cld : Option Addr) (csl : Array (Option Value)), K.lookup cc = some ⟨cl, cld, .cell (some (.ref D)), csl⟩
/-- what super().__init__ of an instance of C, from within D, comes to: g -/
structure SupF (K : PySem.W.Frag) (C D g : Addr) : Prop where
  dcl : ∃ cd, PySem.W.clsIn K D = some cd
  ccl : ∃ cd, PySem.W.clsIn K C = some cd
  sub : PySem.W.mroIn K C (.ref D) = some true
  op : PySem.W.nsIn K cStatics "thirdparty.any" = some none
  mt : PySem.W.ks_superIn K C D "__init__" = some (some (.ref g))
  ty : PySem.W.typeIn K (.ref g) = some (.type "function")
  fi : PySem.W.fnIn K g = true
abbrev envS (qual : Str) (scope : Scope) (L a : Addr) (cda cc : Addr) : Env := PySem.W.ksEnv qual scope L a (.ref cda) cc
def cxS (CX : CXT) (P : Program) (w : World) (K : PySem.W.Frag) (mg : Str → Option Value) (base : Heap) (N : List Str) (qual : Str) (scope : Scope) (f cda cc : Addr) (A : Around) (outer : List Env) (s : Shared) (H : Hp) (E : XK) : Cx where
  prog := P
  w := w
  K := K
  mg := mg
  base := base
  A := A.deeper (envS qual scope s.heap.objs.size f cda cc)
  N := N
  s_0 := s
  H_0 := H
  env := envS qual scope s.heap.objs.size f cda cc
  outer := outer
  stack := envS qual scope s.heap.objs.size f cda cc :: outer
  ex := []
  calm := true
  fn := fun _ => false
  pn := []
  xe := fun e s' => wpAny (model P w) (A.deeper (envS qual scope s.heap.objs.size f cda cc)) (leaving (envS qual scope s.heap.objs.size f cda cc) e) (fun _ s'' => CX outer H s E e s'') (fun e' s'' => CX outer H s E e' s'') s'
/-- rows of a body that runs as such -/
structure PSf (X : Cx) (c : Code) (st : List Stmt) (t : TS) : Prop where
  run : ∀ (pins : List (Addr × Obj)) (s : Shared) (σ : L2.St) (H : Hp) (D : Ends), Inv X pins σ H s → t D σ H → _root_.PySem.wpAt (model X.prog X.w) X.A c (execs st X.env) (SP X pins D) X.xe s
/-- super().__init__(..), the last row -/
def tSuper (C g : Addr) (sp : Sp) (E : XK) (t : TA) : TS := fun D σ H => ∃ p dx fs, σ[0]? = some (some (.ref p)) ∧ H p = some (.ins C dx fs) ∧ t σ H fun vs H1 => sp (.ref p :: vs) H1 (fun _ H2 => D.nx σ H2) E
end Mi
set_option maxHeartbeats 1000000
namespace Mi
open PySem PySem.Spec PyProof.Rows L2
open Evl (Ex)
/-! ### what the head tells -/
abbrev FnC : Type := Option (Str × Str × Arguments × FuncBody × Scope × Addr × List Str × Value × Value × Addr)
/-- a method that says super(): its class, the def's place in it -/
structure SupD where
  cls : Str
  name : Str
  qual : Str
  params : Arguments
  body : List Stmt
  scope : Scope
  file : Str
def SupD.val (d : SupD) : FnC := some (d.name, d.qual, d.params, .stmts d.body, d.scope, mainGlobals, [("__class__" : Str)], .none, .none, builtinsNs)
def SupD.ad (K : PySem.W.Frag) (d : SupD) : Addr := He.ma K (He.ga K d.cls) d.name
def fnC (K : PySem.W.Frag) (a : Addr) : FnC := match K.lookup a with
  | some o => (match o.data with
    | .func fd => some (fd.name, fd.qualname, fd.params, fd.body, fd.scope, fd.globals, fd.closure.map (·.1), fd.defaults, fd.kwdefaults, fd.builtins)
    | _ => none)
  | none => none
def fnData (K : PySem.W.Frag) (a : Addr) : Option FuncData := match K.lookup a with
  | some o => (match o.data with
    | .func fd => some fd
    | _ => none)
  | none => none
def cellB (K : PySem.W.Frag) (c D : Addr) : Bool := match K.lookup c with
  | some o => (match o.data with
    | .cell (some (.ref d)) => d == D
    | _ => false)
  | none => false
def codeB (K : PySem.W.Frag) (c : Addr) (file : Str) : Bool := match K.lookup c with
  | some o => (match o.data with
    | .fields vs => (match (vs[2]? : Option Value) with
      | some (.str z _) => decide (z = file)
      | _ => false)
    | _ => false)
  | none => false
def SupD.ok (K : PySem.W.Frag) (d : SupD) : Bool := PySem.W.keepIn K (.ref (d.ad K)) && (match fnData K (d.ad K) with
  | some fd => PySem.W.codeIn K fd.code d.qual && (match fd.code, fd.closure with
    | .ref c, [(_, cc)] => codeB K c d.file && cellB K cc (He.ga K d.cls)
    | _, _ => false)
  | none => false)
theorem lookO {K : PySem.W.Frag} {a : Addr} {o : Obj} (h : K.lookup a = some o) {dt : Data} (e : o.data = dt) : K.lookup a = some ⟨o.cls, o.dict, dt, o.slots⟩ := by rw [h, ← e]
theorem cellB_ok {K : PySem.W.Frag} {c D : Addr} (h : cellB K c D = true) : ∃ (cl : Value) (cld : Option Addr) (csl : Array (Option Value)), K.lookup c = some ⟨cl, cld, .cell (some (.ref D)), csl⟩ := by
  unfold cellB at h
  split at h
  · rename_i o q
    split at h
    · rename_i d e
      have : d = D := beq_iff_eq.mp h
      subst this
      exact ⟨_, _, _, lookO q e⟩
    · cases h
  · cases h
theorem codeB_ok {K : PySem.W.Frag} {c : Addr} {file : Str} (h : codeB K c file = true) : ∃ (ccl : Value) (cdd : Option Addr) (vs : Array Value) (ccs : Array (Option Value)) (tf : Tok), K.lookup c = some ⟨ccl, cdd, .fields vs, ccs⟩ ∧ vs[2]? = some (.str file tf) := by
  unfold codeB at h
  split at h
  · rename_i o q
    split at h
    · rename_i vs e
      split at h
      · rename_i z t e2
        have : z = file := of_decide_eq_true h
        subst this
        exact ⟨_, _, _, _, _, lookO q e, e2⟩
      · cases h
    · cases h
  · cases h
theorem supD_ok {K : PySem.W.Frag} {d : SupD} (e : fnC K (d.ad K) = d.val) (h : d.ok K = true) : ∃ fd cc cda, FunS K d.name d.qual d.params d.body d.scope (d.ad K) cc cda (He.ga K d.cls) d.file fd := by
  unfold SupD.ok at h
  obtain ⟨kp, h⟩ := He.ba h
  split at h
  · rename_i fd q
    obtain ⟨hc, h⟩ := He.ba h
    unfold fnData at q
    split at q
    · rename_i o lk
      split at q
      · rename_i fd' e1
        cases q
        unfold fnC at e
        rw [lk] at e
        dsimp only at e
        rw [e1] at e
        split at h
        · rename_i c y cc e2 e3
          obtain ⟨h1, h2⟩ := He.ba h
          obtain ⟨n1, n2, n3, n4, n5, n6, n7, n8, n9, n10, n11, n12, n13, n14, n15⟩ := fd
          dsimp only at e2 e3 hc
          subst e2 e3
          unfold SupD.val at e
          simp only [Option.some.injEq, Prod.mk.injEq, List.map_cons, List.map_nil, List.cons.injEq, and_true] at e
          obtain ⟨r1, r2, r3, r4, r5, r6, r7, r8, r9, r10⟩ := e
          subst r1 r2 r3 r4 r5 r6 r7 r8 r9 r10
          exact ⟨_, cc, c, ⟨_, _, _, _, _, _, _, rfl, lookO lk e1, hc⟩, kp, codeB_ok h1, cellB_ok h2⟩
        · cases h
      · cases q
    · cases q
  · cases h
/-- super().__init__ of an instance of c within D: which def -/
def supB (K : PySem.W.Frag) (c D g : Str) : Bool := (PySem.W.clsIn K (He.ga K D)).isSome && ((PySem.W.clsIn K (He.ga K c)).isSome && (decide (PySem.W.mroIn K (He.ga K c) (.ref (He.ga K D)) = some true) && (He.eqO (PySem.W.nsIn K cStatics "thirdparty.any") (some none) &&
  (He.eqO (PySem.W.ks_superIn K (He.ga K c) (He.ga K D) "__init__") (some (some (.ref (He.ma K (He.ga K g) "__init__")))) && (decide (PySem.W.typeIn K (.ref (He.ma K (He.ga K g) "__init__")) = some (.type "function")) && PySem.W.fnIn K (He.ma K (He.ga K g) "__init__"))))))
/-! ### dicts of the top with text keys -/
def tabB (K : PySem.W.Frag) (a : Addr) (kvs : List (Str × D)) : Bool := kvs.all fun q => match PySem.W.nsIn K a q.1 with
  | some (some u) => repB K q.2 u
  | _ => false
/-- a name of the module that stands for such a dict -/
structure TabF (K : PySem.W.Frag) (w : World) (mg : Str → Option Value) (x : Str) (kvs : List (Str × D)) : Prop where
  m : mg x = some (.ref (He.ga K x))
  d : ∃ es n, KDict K w (He.ga K x) es n
  hit : ∀ z d, kvs.lookup z = some d → ∃ u v, PySem.W.nsIn K (He.ga K x) z = some (some u) ∧ RelV v u ∧ ∀ F, Rep K F d v
  miss : ∀ z, kvs.lookup z = none → PySem.W.nsIn K (He.ga K x) z = some none
/-! ### the hook -/
abbrev AlY : Type := He.AlT × Bool × List FnC
def asY (g : Addr → Option Obj) (n : Nat) : List Addr := He.asD g n ++ [cStatics]
def obsY (n : Nat) (fa : List He.Fa) (fn : List He.DefD) (ts : List He.Tab) (ss : List SupD) (ex : PySem.W.Frag → Bool) (g : Addr → Option Obj) : AlY :=
  (He.obsT fa fn ts (He.frT g (asY g n)), ex (He.frT g (asY g n)) && ss.all (SupD.ok (He.frT g (asY g n))), ss.map fun d => fnC (He.frT g (asY g n)) (d.ad (He.frT g (asY g n))))
def valY (fn : List He.DefD) (ts : List He.Tab) (ss : List SupD) (w : World) : AlY := (He.valT fn ts w, true, ss.map SupD.val)
structure SaysY (fa : List He.Fa) (fn : List He.DefD) (ts : List He.Tab) (ss : List SupD) (ex : PySem.W.Frag → Bool) (w : World) (K : PySem.W.Frag) : Prop where
  t : He.SaysT fa fn ts w K
  more : ex K = true
  sup : ∀ d ∈ ss, ∃ fd cc cda, FunS K d.name d.qual d.params d.body d.scope (d.ad K) cc cda (He.ga K d.cls) d.file fd
theorem saysY_of {n : Nat} {fa : List He.Fa} {fn : List He.DefD} {ts : List He.Tab} {ss : List SupD} {ex : PySem.W.Frag → Bool} {w : World} {h : Heap} (e : obsY n fa fn ts ss ex h.get? = valY fn ts ss w) : SaysY fa fn ts ss ex w (He.frT h.get? (asY h.get? n)) := by
  have e2 : (ex (He.frT h.get? (asY h.get? n)) && ss.all (SupD.ok (He.frT h.get? (asY h.get? n)))) = true := congrArg (fun z : AlY => z.2.1) e
  have e3 : (ss.map fun d => fnC (He.frT h.get? (asY h.get? n)) (d.ad (He.frT h.get? (asY h.get? n)))) = ss.map SupD.val := congrArg (fun z : AlY => z.2.2) e
  obtain ⟨h1, h2⟩ := He.ba e2
  exact ⟨congrArg (fun z : AlY => z.1) e, h1, fun d hd => supD_ok (List.map_inj_left.mp e3 d hd) (List.all_eq_true.mp h2 d hd)⟩
def hookY (n : Nat) (fa : List He.Fa) (fn : List He.DefD) (ts : List He.Tab) (ss : List SupD) (ex : PySem.W.Frag → Bool) : PySem.W.Hook where
  α := AlY
  obs := fun s => obsY n fa fn ts ss ex s.heap.get?
  val := fun w => valY fn ts ss w
  says := fun w h => ∃ K : PySem.W.Frag, K.In h ∧ SaysY fa fn ts ss ex w K
  of := fun _ _ e => ⟨_, He.frT_in, saysY_of e⟩
  keeps := fun _ _ _ ⟨K, hK, c⟩ k => ⟨K, PySem.W.Frag.In.keeps hK k, c⟩
/-! ### a dict of the top, read -/
def dget {α : Type} (kvs : List (Str × α)) (z : Str) : Res α := match kvs.lookup z with
  | some x => .ok x
  | none => .stuck
def din {α : Type} (kvs : List (Str × α)) (z : Str) : Bool := (kvs.lookup z).isSome
abbrev tabD {α : Type} [ToD α] (kvs : List (Str × α)) : List (Str × D) := kvs.map fun p => (p.1, toD p.2)
def rInD (K : PySem.W.Frag) (a : Addr) (neg : Bool) : R2 := fun x y H Q => ∃ (z : Str) (r : Option Value), x = .str z ∧ y = .ref a ∧ PySem.W.nsIn K a z = some r ∧ Q (.bl (if neg then !r.isSome else r.isSome)) H
section
variable {K : PySem.W.Frag} {w : World} {mg : Str → Option Value} {x : Str} {kvs : List (Str × D)}
variable {W : WX} {env : En} {te : TE} {α : Type} [ToD α] {l : List (Str × α)}
end
/-! ### one of two -/
inductive Un (α β : Type) where
  | l (x : α) | r (y : β)
instance {α β : Type} [ToD α] [ToD β] : ToD (Un α β) := ⟨fun u => match u with | .l x => ToD.d x | .r y => ToD.d y⟩
def Un.asL {α β : Type} : Un α β → Res α
  | .l x => .ok x
  | .r _ => .stuck
def Un.asR {α β : Type} : Un α β → Res β
  | .l _ => .stuck
  | .r y => .ok y
section
variable {α β : Type} [ToD α] [ToD β]
end
def orR {α : Type} : Res α → Res α → Res α
  | .stuck, m => m
  | .ok x, _ => .ok x
  | .exc c, _ => .exc c
def tAlt (ta tb : TE) : TE := fun σ H Q => ta σ H Q ∨ tb σ H Q
/-! ### super().__init__ in blocks -/
theorem FunS.bindsN {K : PySem.W.Frag} {x qual : Str} {params : Arguments} {body : List Stmt} {scope : Scope} {f cc cda D : Addr} {file : Str} {fd : FuncData} {ps : List Str} (F : FunS K x qual params body scope f cc cda D file fd)
    (h : ∀ (doc pm : Value) (an : Option Addr) (ct : Value) (us : List Value), us.length = ps.length → bindArgs (PySem.W.ksFn x qual params body scope .none .none doc pm an (.ref cda) ct cc) ⟨us, []⟩ = pure (ps.zip us)) : Binds K fd ps [] := by
  obtain ⟨oc, od, doc, pm, an, ct, osl, rfl, lk, hcd⟩ := F.ex
  exact .all (h doc pm an ct)
section
variable {P : Program} {w : World} {K : PySem.W.Frag} {mg : Str → Option Value} {base : Heap} {x qual file : Str} {params : Arguments} {body : List Stmt} {scope : Scope} {f cc cda D : Addr} {fd : FuncData}
end
/-! ### the head's run, looked at in two pieces -/
section
open PySem.W PySem.Calls PyProof.Rows HandSHeadRun
def RunOb {β : Type} (P : Program) (f : SharedT → β) (M : Nat) (w : World) (v : β) : Prop := ∀ os : OsState, (endF (stepQ (denQ tabQ) P w) M P w os).map f = some v
noncomputable abbrev seeOb (r : OpenRow) (q : Program) (loose : List PySem.Str) (w : World) :=
  fun s : SharedT => (looksF r.prog (boot_heap w.params) s.abs, seenQ q loose (importedModules r.prog.main.body) (fun s => xlAt q [] s && recOk r.toRowW.records s) s.abs)
end
end Mi
set_option maxHeartbeats 1000000
namespace Mi
open PySem PySem.Spec L2
/-! ### a try of several clauses without names; statements that are never reached -/
/-- the outcome of the clauses for an error of class c -/
def pickR {τ : Type} (sub : Str → Str → Bool) (c : Str) : List (Str × Res τ) → Res τ
  | [] => .exc c
  | (x, m) :: r => if sub c x = true then m else pickR sub c r
def tryM {S τ : Type} (known : Str → Bool) (sub : Str → Str → Bool) (m : Res (Fall S τ)) (rest : S → Res τ) (hs : List (Str × Res τ)) : Res τ := match m with
  | .ok (.go s) => rest s
  | .ok (.back x) => .ok x
  | .exc c => if known c = true then pickR sub c hs else .stuck
  | .stuck => .stuck
def tTryM (K : PySem.W.Frag) (l : List (Value × (Addr → Value → Option Addr → TS))) (W : WX) (tb : WX → TS) : TS := fun D σ H => tb (wMany K W D l) D σ H
section
variable {X : Cx} {body : List Stmt} {h₀ : ExceptHandler} {hds : List ExceptHandler} {l : List (Value × (Addr → Value → Option Addr → TS))} {pos : Pos} {tb : WX → TS} {Wout : WX}
theorem ps_tryM (hs : X.stack = X.env :: X.outer) (hf : X.env.frame = some X.env.locals) (tk : Takes X Wout)
    (hb : ∀ (W : WX) (pn : List (Addr × Obj)) (xe : Value → Shared → Prop), Takes (X.tr pn xe) W → PassesOwn (model X.prog X.w) X.A X.env xe → PSs (X.tr pn xe) body (tb W))
    (hh : HdsOk X (h₀ :: hds) l) : PS X (.Try body (h₀ :: hds) [] [] pos) (tTryM X.K l Wout tb) := ps_try_many hs hf tk hb hh
end
section
variable {K : PySem.W.Frag} {W : WX} {F0 H0 F H : Hp} {rt : VK} {PT : En → Prop} {env env' : En} {τ : Type} [ToD τ] [ToR τ] {KP : Res τ → Prop} {Z : Ends}
inductive HdB (K : PySem.W.Frag) (F0 H0 : Hp) {τ : Type} (KP : Res τ → Prop) (Z : Ends) (env : En) (cs : List Str) : List (Value × (Addr → Value → Option Addr → TS)) → List (Str × Res τ) → Prop
  | nil : HdB K F0 H0 KP Z env cs [] []
  | cons {x : Str} {ts : Addr → Value → Option Addr → TS} {mh : Res τ} {l : List (Value × (Addr → Value → Option Addr → TS))} {hs : List (Str × Res τ)} (hx : x ∈ cs)
      (hb : ∀ (a : Addr) (cls : Value), Blk K F0 H0 KP (ts a cls none Z) env mh) (r : HdB K F0 H0 KP Z env cs l hs) : HdB K F0 H0 KP Z env cs ((.ref (He.ga K x), ts) :: l) ((x, mh) :: hs)
theorem HdB.go {cs : List Str} {sub : Str → Str → Bool} {c : Str} {σ : L2.St} (L : Lk K W F0 H0 rt PT KP) (hT : PT env) (C : Cls K cs sub) (hc : c ∈ cs) (S2 : Sl K F0 H0 F H σ env) :
    ∀ {l : List (Value × (Addr → Value → Option Addr → TS))} {hs : List (Str × Res τ)}, HdB K F0 H0 KP Z env cs l hs → KP (pickR sub c hs) → wMany K W Z l (.ref (He.ga K c)) none σ H
  | _, _, .nil, h => L.exc c F H σ env h hT S2
  | _, _, .cons (x := x) (mh := mh) (hs := hs) hx hb r, h => by
    have h : KP (if sub c x = true then mh else pickR sub c hs) := h
    refine ⟨sub c x, C.exm c hc x hx, fun q a ha => ?_, fun q => ?_⟩
    · rw [if_pos q] at h
      exact hb a _ F H σ S2 h
    · rw [if_neg (by rw [q]; decide)] at h
      exact HdB.go L hT C hc S2 r h
theorem blk_tryM {S : Type} {cs : List Str} {sub : Str → Str → Bool} {l : List (Value × (Addr → Value → Option Addr → TS))} {tb : WX → TS} {envS : S → En} {m : Res (Fall S τ)} {rest : S → Res τ} {hs : List (Str × Res τ)}
    (L : Lk K W F0 H0 rt PT KP) (hT : PT env) (C : Cls K cs sub)
    (hb : ∀ (W' : WX) (KP' : Res (Fall S τ) → Prop), Lk K W' F0 H0 rt (fun e => EnLe e env) KP' → (∀ s, Blk K F0 H0 KP' Z.nx (envS s) (.ok (.go s))) → Blk K F0 H0 KP' (tb W' Z) env m)
    (hh : HdB K F0 H0 KP Z env cs l hs)
    (hr : ∀ s, Blk K F0 H0 KP Z.nx (envS s) (rest s)) (hZ : Z.rt = rt := by rfl) :
    Blk K F0 H0 KP (tTryM K l W tb Z) env (tryM (fun c => decide (c ∈ cs)) sub m rest hs) := fun F H σ S1 h => by
  subst hZ
  refine hb (wMany K W Z l) (fun r => KP (tryM (fun c => decide (c ∈ cs)) sub r rest hs)) ⟨fun y h v F H a r => ?_, fun c F H σ env' h p S' => ?_, L.no⟩ (fun s F H σ S h => hr s F H σ S h) F H σ S1 h
  · cases y with
    | go s => exact (no_go r).elim
    | back y => exact fun q => L.ok y h v F H a r q
  · have h : KP (if decide (c ∈ cs) = true then pickR sub c hs else .stuck) := h
    by_cases hc : c ∈ cs
    · rw [if_pos (decide_eq_true hc)] at h
      exact HdB.go L hT C hc (S'.weak p) hh h
    · rw [if_neg (by rw [decide_eq_false hc]; decide)] at h
      exact (L.no h).elim
end
end Mi
set_option maxHeartbeats 1000000
namespace Mi
open PySem PySem.Spec L2
/-! ### zip of two lists; texts in the text of an error -/
theorem pi_zipK {X : Cx} {K : PySem.W.Frag} {e e2 : Expr} {ta : TA} {p pos tpos : Pos} {elts : List Expr} {kk : Nat} (h : X.K = K) (hg : Gl X "zip") (hm : X.mg "zip" = none) (ha : PA X [e, e2] ta)
    (hs : starEach [e, e2] X.env = (false, eval e X.env) :: starEach [e2] X.env := by rfl) (hpl : (backTo pos (starEach [e2] X.env)).any (·.1) = false := by rfl) :
    PI X (.Tuple elts kk tpos) (.Call (.Name "zip" p) [e, e2] [] pos) (iZip K ta) := by
  subst h; exact pi_zip hg hm ha hs hpl
section
variable {K : PySem.W.Frag} {W : WX} {F0 H0 F H F' H' F1 : Hp} {env : En} {α β : Type} [ToD α] [ToD β]
theorem js_zip {a b : Addr} {vs ws : List V} {xs ys : List D} (h1 : SqL K F a vs) (r1 : Reps K F xs vs) (h2 : SqL K F b ws) (r2 : Reps K F ys ws) : JS K F (Itz K a b) ((xs.zip ys).map fun q => D.tup [q.1, q.2]) := by
  have n1 := r1.length
  have n2 := r2.length
  have hn : ((xs.zip ys).map fun q => D.tup [q.1, q.2]).length = min vs.length ws.length := by rw [List.length_map, List.length_zip, n1, n2]
  refine ⟨fun i H e hi => ?_, fun i H e hi => ?_, fun i H v H' F1 e1 e2 hi hy => ?_⟩
  · rw [hn] at hi
    exact ⟨vs, ws, vs[i]'(by omega), ws[i]'(by omega), Evl.ex_l e h1, Evl.ex_l e h2, List.getElem?_eq_getElem (by omega), List.getElem?_eq_getElem (by omega)⟩
  · rw [hn] at hi
    exact ⟨vs, ws, Evl.ex_l e h1, Evl.ex_l e h2, by omega⟩
  · rw [hn] at hi
    obtain ⟨T, x, y, rfl, hT, rfl, f1, f2⟩ := hy
    have g1 := f1 vs (Evl.ex_l (e1.trans e2) h1)
    have g2 := f2 ws (Evl.ex_l (e1.trans e2) h2)
    obtain ⟨w1, q1, q2⟩ := r1.get (i := i) (e := xs[i]'(by omega)) (List.getElem?_eq_getElem (by omega))
    obtain ⟨w2, q3, q4⟩ := r2.get (i := i) (e := ys[i]'(by omega)) (List.getElem?_eq_getElem (by omega))
    rw [g1] at q1; cases q1
    rw [g2] at q3; cases q3
    have a2 : Adv F1 H (upd F1 T (.tup [x, y])) (upd H T (.tup [x, y])) := Adv.new e2 hT
    refine ⟨_, D.tup [xs[i]'(by omega), ys[i]'(by omega)], a2, ?_, ?_⟩
    · rw [List.getElem?_map, List.getElem?_eq_getElem (by rw [List.length_zip]; omega), List.getElem_zip]; rfl
    · have rr : Reps K F1 [xs[i]'(by omega), ys[i]'(by omega)] [x, y] := ⟨x, [y], rfl, Rep.mono e1 _ _ q2, y, [], rfl, Rep.mono e1 _ _ q4, rfl⟩
      exact ⟨T, _, rfl, .inl (.inl upd_same), Reps.mono a2.f _ _ rr⟩
theorem zip_toD : ∀ (xs : List α) (ys : List β), (List.zipWith T2.mk xs ys).map toD = ((xs.map toD).zip (ys.map toD)).map fun q => D.tup [q.1, q.2]
  | [], _ => by simp
  | _ :: _, [] => by simp
  | x :: r, y :: s => by
    show toD (T2.mk x y) :: (List.zipWith T2.mk r s).map toD = _
    rw [zip_toD r s]; rfl
theorem ei_zip {t : TA} {m : Res (List α × List β × Unit)} (h : EvA K W env t m) : EvI K W env (iZip K t) (m.bind fun y => .ok (List.zipWith T2.mk y.1 y.2.1)) := fun F0 H0 F H σ R S k => by
  refine h F0 H0 F H σ _ S ?_
  cases m with
  | ok y =>
    obtain ⟨xs, ys, u⟩ := y
    intro vs F1 H1 a r
    obtain ⟨v, r', rfl, ra, w, r'', rfl, rb, rfl⟩ := r
    obtain ⟨p, vs, rfl, h1, h2⟩ := ra
    obtain ⟨q, ws, rfl, h3, h4⟩ := rb
    refine ⟨p, q, vs, ws, rfl, sq_ex a.in_ h1, sq_ex a.in_ h3, ?_⟩
    have k : KI K W F H σ R (.ok (List.zipWith T2.mk xs ys)) := k
    refine k _ F1 H1 a ?_
    rw [zip_toD]
    exact js_zip (Evl.sq_of h1) h2 (Evl.sq_of h3) h4
  | exc c => exact k
  | stuck => exact k.elim
/-- a part of a slice, as the def works it out -/
def KPt (K : PySem.W.Frag) (W : WX) (F H : Hp) (σ : L2.St) (Q : Option Int → Hp → Prop) : Res (Option Int) → Prop
  | .ok o => ∀ F' H', Adv F H F' H' → Q o H'
  | .exc c => ∀ F' H', Adv F H F' H' → W (.ref (He.ga K c)) none σ H'
  | .stuck => False
def EvPt (K : PySem.W.Frag) (W : WX) (env : En) (tp : TO) (m : Res (Option Int)) : Prop := ∀ F0 H0 F H σ Q, Sl K F0 H0 F H σ env → KPt K W F H σ Q m → tp σ H Q
theorem ept_none : EvPt K W env tNoPart (.ok none) := fun F0 H0 F H σ Q S k => k F H (Adv.refl S.ex)
theorem ept_some {te : TE} {m : Res Int} (h : EvX K W env te m) : EvPt K W env (tPart te) (m.bind fun i => .ok (some i)) := fun F0 H0 F H σ Q S k => by
  refine h F0 H0 F H σ _ S ?_
  cases m with
  | ok i =>
    intro v F1 H1 a r
    exact ⟨i, r, k F1 H1 a⟩
  | exc c => exact k
  | stuck => exact k.elim
theorem en_sliceV {te : TE} {m : Res (List α)} {ml mh : Res (Option Int)} {tl th : TO} (h : EvX K W env te m) (hl : EvPt K W env tl ml) (hh : EvPt K W env th mh) :
    EvN K W env (tSl (rSlL K) te tl th) (m.bind fun xs => ml.bind fun lo => mh.bind fun hi => .ok (cutL xs lo hi)) := fun F0 H0 F H σ Q S k => by
  refine h F0 H0 F H σ _ S ?_
  cases m with
  | ok xs =>
    intro v F1 H1 a r
    obtain ⟨p, vs, rfl, h1, h2⟩ := r
    refine hl F0 H0 F1 H1 σ _ (S.step a) ?_
    cases ml with
    | ok lo =>
      intro F2 H2 a2
      refine hh F0 H0 F2 H2 σ _ ((S.step a).step a2) ?_
      cases mh with
      | ok hi =>
        intro F3 H3 a3
        have b := (a.trans a2).trans a3
        refine ⟨p, vs, rfl, sq_ex a3.in_ ((a2.f.trans a3.f) _ _ h1), fun l hl => ?_⟩
        refine k l _ F3 _ (b.trans (Adv.newO a3.in_ hl)) (Evl.fresh_back b.h hl) (none_of_ex a3.in_ hl) upd_same ?_
        have e : xs.length = vs.length := by have := h2.length; rwa [List.length_map] at this
        unfold cutV
        show Reps K F3 ((cutL xs lo hi).map toD) _
        unfold cutL
        rw [List.map_take, List.map_drop, e]
        exact Reps.mono (a2.f.trans a3.f) _ _ (Reps.take _ (Reps.drop _ h2))
      | exc c => exact fun F3 H3 a3 => k F3 H3 ((a.trans a2).trans a3)
      | stuck => exact k.elim
    | exc c => exact fun F2 H2 a2 => k F2 H2 (a.trans a2)
    | stuck => exact k.elim
  | exc c => exact k
  | stuck => exact k.elim
end
end Mi
set_option maxHeartbeats 4000000
namespace Mi
open PySem PySem.Spec L2
open Evl (Ex)
section
open PySem.W PySem.Calls PyProof.Rows RT
/-- list(reversed(x)), x a list: a new list -/
def tLRev (K : PySem.W.Frag) (te : TE) : TE := fun σ H Q => te σ H fun v H1 => ∃ (a : Addr) (xs : List V), v = .ref a ∧ SqL K H1 a xs ∧ ∀ q, H1 q = none → Q (.ref q) (upd H1 q (.lst xs.reverse))
variable {K : PySem.W.Frag} {W : WX} {env : En} {te : TE} {α : Type} [ToD α]
end
end Mi
set_option maxHeartbeats 1000000
namespace Mi
open PySem PySem.Spec L2
open Evl (Ex)
/-! ### the hook with addresses that are given -/
def lookZ (fa : List He.Fa) (fn : List He.DefD) (ts : List He.Tab) (ss : List SupD) (ex : PySem.W.Frag → Bool) (K : PySem.W.Frag) : AlY :=
  (He.obsT fa fn ts K, ex K && ss.all (SupD.ok K), ss.map fun d => fnC K (d.ad K))
def obsZ (as : List Addr) (fa : List He.Fa) (fn : List He.DefD) (ts : List He.Tab) (ss : List SupD) (ex : PySem.W.Frag → Bool) (g : Addr → Option Obj) : AlY := lookZ fa fn ts ss ex (He.frT g as)
theorem saysZ_of {fa : List He.Fa} {fn : List He.DefD} {ts : List He.Tab} {ss : List SupD} {ex : PySem.W.Frag → Bool} {w : World} {K : PySem.W.Frag} (e : lookZ fa fn ts ss ex K = valY fn ts ss w) : SaysY fa fn ts ss ex w K := by
  have e2 : (ex K && ss.all (SupD.ok K)) = true := congrArg (fun z : AlY => z.2.1) e
  have e3 : (ss.map fun d => fnC K (d.ad K)) = ss.map SupD.val := congrArg (fun z : AlY => z.2.2) e
  obtain ⟨h1, h2⟩ := He.ba e2
  exact ⟨congrArg (fun z : AlY => z.1) e, h1, fun d hd => supD_ok (List.map_inj_left.mp e3 d hd) (List.all_eq_true.mp h2 d hd)⟩
def hookZ (as : List Addr) (fa : List He.Fa) (fn : List He.DefD) (ts : List He.Tab) (ss : List SupD) (ex : PySem.W.Frag → Bool) : PySem.W.Hook where
  α := AlY
  obs := fun s => obsZ as fa fn ts ss ex s.heap.get?
  val := fun w => valY fn ts ss w
  says := fun w h => ∃ K : PySem.W.Frag, K.In h ∧ SaysY fa fn ts ss ex w K
  of := fun _ _ e => ⟨_, He.frT_in, saysZ_of e⟩
  keeps := fun _ _ _ ⟨K, hK, c⟩ k => ⟨K, PySem.W.Frag.In.keeps hK k, c⟩
theorem obsZ_eq {as : List Addr} {fa : List He.Fa} {fn : List He.DefD} {ts : List He.Tab} {ss : List SupD} {ex : PySem.W.Frag → Bool} {g : Addr → Option Obj} {s : Shared} (h : ∀ a, g a = s.heap.get? a) : obsZ as fa fn ts ss ex g = (hookZ as fa fn ts ss ex).obs s := by
  have e : g = s.heap.get? := funext h
  rw [e] <;> rfl
end Mi
set_option maxHeartbeats 1000000
namespace Mi
open PySem PySem.Spec L2
open Evl (Ex)
section
variable {K : PySem.W.Frag} {W : WX} {env : En} {te : TE} {α β : Type} [ToD α] [ToD β]
theorem en_listO {j : Nat} {xs : List α} (h : env[j]? = some (some (.ow (xs.map toD)))) : EvN K W env (tCB (fun xs H Q => ∃ p ys, xs = [V.ref p] ∧ (SqL K H p ys ∨ SqT K H p ys) ∧ ∀ l, H l = none → Q (.ref l) (upd H l (.lst ys))) (tCons (tVar j) tNil)) (.ok xs) := fun F0 H0 F H σ Q S k => by
  obtain ⟨v, e, p, vs, rfl, h0, hf, hp, hr⟩ := S.slot j _ h
  refine ⟨_, e, p, vs, rfl, .inl (.inl (.inl hp)), fun l hl => ?_⟩
  exact k l vs F _ (Adv.newO S.ex hl) hl (none_of_ex S.ex hl) upd_same hr
end
end Mi
set_option maxHeartbeats 1000000
namespace Mi
open PySem PySem.Spec L2
open PyProof.Rows
open Evl (Ex)
/-! ### calls with keywords, and with keyword-only parameters that lack -/
def tCallNS (n m : Nat) (sp : Sp) (gV : List V → List V → List V) (E : L2.St → XK) (t tk : TA) : TE := fun σ H Q => t σ H fun vs H1 => tk σ H1 fun zs H2 => vs.length = n ∧ zs.length = m ∧ sp (gV vs zs) H2 Q (E σ)
section
variable {X : Cx} {CX : CXT} {k n : Nat} {f : Addr} {fd : FuncData} {ps ks : List Str} {sp : Sp} {E : L2.St → XK} {x : Str} {p pos : Pos} {e : Expr} {es : List Expr} {kws : List Keyword} {t tk : TA} {g : List Value → List Value → List Value} {gV : List V → List V → List V}
end
section
variable {K : PySem.W.Frag} {W : WX} {env : En} {te : TE} {α β : Type} [ToD α] [ToD β]
end
/-- a value of any kind read as a pair of integers, or None -/
def D.asP2 : D → Res (Option (T2 Int Int))
  | .non => .ok none
  | .tup [.int x, .int y] => .ok (some ⟨x, y⟩)
  | _ => .stuck
def D.asTI : D → Res (T2 Int Int)
  | .tup [.int x, .int y] => .ok ⟨x, y⟩
  | _ => .stuck
/-! ### min and max of a pair of integers -/
def rMinP (K : PySem.W.Frag) : List V → Hp → VK → Prop := fun vs H Q => ∃ (a : Addr) (i j : Int), vs = [V.ref a] ∧ SqT K H a [.int i, .int j] ∧ Q (.int (min i j)) H
def rMaxP (K : PySem.W.Frag) : List V → Hp → VK → Prop := fun vs H Q => ∃ (a : Addr) (i j : Int), vs = [V.ref a] ∧ SqT K H a [.int i, .int j] ∧ Q (.int (max i j)) H
section
variable {X : Cx}
end
/-! ### max(xs, default=d) -/
def lmax0 (ns : List Int) (d : Int) : Int := match ns with | [] => d | y :: ys => ys.foldl max y
def tMaxD (K : PySem.W.Frag) (t tk : TA) : TE := fun σ H Q => t σ H fun vs H1 => tk σ H1 fun zs H2 => ∃ (a : Addr) (ns : List Int) (d : Int), vs = [V.ref a] ∧ zs = [V.int d] ∧ SqL K H2 a (ns.map V.int) ∧ Q (.int (lmax0 ns d)) H2
section
variable {X : Cx} {p pos : Pos} {e : Expr} {kws : List Keyword} {t tk : TA}
end
/-- the target of a comprehension's for is a tuple -/
theorem pg_tupK {X : Cx} {K : PySem.W.Frag} {es : List Expr} {k : Nat} {pos : Pos} {t : TGs} {n : Nat} (hK : X.K = K) (hc : X.calm = true) (h : PGs X es t)
    (hn : (assignEach es X.env).length = n := by rfl) (hst : (assignEach es X.env).findIdx? (·.1) = none := by rfl) : PG X (.Tuple es k pos) (gTup K n t) := by
  subst hK
  exact pg_tup hc h hn hst
end Mi
set_option maxHeartbeats 1000000
namespace Mi
open PySem PySem.Spec L2
open Evl (Ex)
/-! ### two fors in a comprehension, without ifs -/
def compL2 {α β γ : Type} (it : α → Res (List β)) (el : α → β → Res γ) : List α → Res (List γ)
  | [] => .ok []
  | x :: xs => (it x).bind fun ys => (mapL (el x) ys).bind fun zs => (compL2 it el xs).bind fun r => .ok (zs ++ r)
/-- the owned slots of an environment stand in another one, outside of ws -/
def OwnIn (e' e : En) (ws : List Nat) : Prop := ∀ (i : Nat) (sk : Sk), e'[i]? = some (some sk) → sk.own = true → e[i]? = some (some sk) ∧ i ∉ ws
section
variable {K : PySem.W.Frag} {W : WX} {env : En} {te : TE} {α β γ : Type} [ToD α] [ToD β] [ToD γ]
end
end Mi
set_option maxHeartbeats 1000000
namespace Mi
open PySem PySem.Spec L2
open Evl (Ex)
/-! ### an owned list that is read while something flat is worked out -/
class Flat (α : Type) [ToD α] : Prop where
  ok : ∀ (x : α) (K : PySem.W.Frag) (F F' : Hp) (v : V), Rep K F (toD x) v → Rep K F' (toD x) v
instance : Flat Int := ⟨fun _ _ _ _ _ h => h⟩
instance : Flat Bool := ⟨fun _ _ _ _ _ h => h⟩
instance : Flat Str := ⟨fun _ _ _ _ _ h => h⟩
instance : Flat Unit := ⟨fun _ _ _ _ _ h => h⟩
section
variable {K : PySem.W.Frag} {W : WX} {env : En} {te : TE} {α : Type} [ToD α]
end
/-! ### wider tuples, lists of a known length -/
structure Lt2 (α : Type) where
  a : α
  b : α
structure Lt3 (α : Type) where
  a : α
  b : α
  c : α
structure Lt8 (α : Type) where
  a : α
  b : α
  c : α
  e : α
  f : α
  g : α
  h : α
  i : α
instance {α : Type} [ToD α] : ToD (Lt2 α) := ⟨fun x => .lst [ToD.d x.a, ToD.d x.b]⟩
instance {α : Type} [ToD α] : ToD (Lt3 α) := ⟨fun x => .lst [ToD.d x.a, ToD.d x.b, ToD.d x.c]⟩
instance {α : Type} [ToD α] : ToD (Lt8 α) := ⟨fun x => .lst [ToD.d x.a, ToD.d x.b, ToD.d x.c, ToD.d x.e, ToD.d x.f, ToD.d x.g, ToD.d x.h, ToD.d x.i]⟩
def lt2 {α : Type} : List α → Res (Lt2 α)
  | [a, b] => .ok ⟨a, b⟩
  | _ => .stuck
def lt3 {α : Type} : List α → Res (Lt3 α)
  | [a, b, c] => .ok ⟨a, b, c⟩
  | _ => .stuck
def lt8 {α : Type} : List α → Res (Lt8 α)
  | [a, b, c, e, f, g, h, i] => .ok ⟨a, b, c, e, f, g, h, i⟩
  | _ => .stuck
section
variable {α : Type} [ToD α]
end
/-! ### dicts with text keys that a def makes -/
structure Dc (α : Type) where
  kvs : List (Str × α)
instance {α : Type} [ToD α] : ToD (Dc α) := ⟨fun x => .dct (x.kvs.map (·.1)) (x.kvs.map fun p => toD p.2)⟩
def EvPr (K : PySem.W.Frag) (W : WX) (env : En) (trs : List (TE × TE)) (ks : List Str) {β : Type} [ToDs β] (m : Res β) : Prop :=
  ∀ F0 H0 F H σ (Q : List (V × V) → Hp → Prop), Sl K F0 H0 F H σ env → KA K W F H σ (fun vs H' => Q ((ks.map V.str).zip vs) H') m → tPairs trs σ H Q
section
variable {K : PySem.W.Frag} {W : WX} {env : En} {te : TE} {α : Type} [ToD α] {trs : List (TE × TE)} {ks : List Str}
/-- a dict of this kind, read -/
def cget {α : Type} (x : Dc α) (z : Str) : Res α := match x.kvs.lookup z with
  | some y => .ok y
  | none => .stuck
end
/-! ### s[i] of a text -/
noncomputable def sidx (x : Str) (i : Int) : Res Str := match atI x.cps.toList i with
  | some c => .need (x.length < 16777216) (.ok ⟨#[c]⟩)
  | none => .stuck
/-! ### x.insert(0, e) of an owned list -/
def rInsert : V → List V → Hp → VK → Prop := fun x vs H Q => ∃ (l : Addr) (xs : List V) (i : Int) (y : V), x = .ref l ∧ vs = [.int i, y] ∧ H l = some (.lst xs) ∧ xs.length < sizeLine ∧ 0 ≤ i ∧ i < 2 ^ 63 ∧
    Q .non (upd H l (.lst (xs.take i.toNat ++ [y] ++ xs.drop i.toNat)))
section
variable {K : PySem.W.Frag} {W : WX} {F0 H0 : Hp} {rt : VK} {PT : En → Prop} {τ β : Type} [ToD τ] [ToR τ] [ToD β] {KP : Res τ → Prop} {env : En} {te : TE} {Z : Ends}
end
end Mi
set_option maxHeartbeats 1000000
namespace Mi
open PySem PySem.Spec L2
open Evl (Ex)
/-! ### built-in functions that the module imports -/
def biB (K : PySem.W.Frag) (x : Str) (id : String) : Bool := He.eqO (PySem.W.nsIn K mainGlobals x) (some (some (.builtin id)))
def rSqrt : List V → Hp → VK → Prop := fun xs H Q => ∃ i : Int, xs = [.int i] ∧ 0 ≤ i ∧ i.toNat.log2 ≤ 4000 ∧ Q (.int ((Float64.isqrt i.toNat : Nat) : Int)) H
end Mi
set_option maxHeartbeats 1000000
namespace Mi
open PySem PySem.Spec L2
open Evl (Ex)
/-! ### range(i, j, c), c above 0 -/
def stepN (i j c : Int) : Nat := if i < j then ((j - i - 1) / c + 1).toNat else 0
def pyStep (i j c : Int) : List Int := (List.range (stepN i j c)).map fun (a : Nat) => i + (a : Int) * c
section
variable {K : PySem.W.Frag} {W : WX} {F : Hp} {env : En} {ta tb tc : TE}
end
end Mi
set_option maxHeartbeats 1000000
namespace Mi
open PySem PySem.Spec L2
open Evl (Ex)
/-! ### zip of a list and a tuple -/
def ItzM (K : PySem.W.Frag) (a b : Addr) (n1 n2 : Nat) : It :=
  ⟨fun k G => ∃ (us ws : List V) (u v : V), SqL K G a us ∧ SqT K G b ws ∧ us[k]? = some u ∧ ws[k]? = some v ∧ us.length = n1 ∧ ws.length = n2,
    fun k G r G' => ∃ p u v, r = .ref p ∧ G p = none ∧ G' = upd G p (.tup [u, v]) ∧ (∀ us, SqL K G a us → us[k]? = some u) ∧ ∀ ws, SqT K G b ws → ws[k]? = some v,
    fun k G => ∃ us ws : List V, SqL K G a us ∧ SqT K G b ws ∧ us.length = n1 ∧ ws.length = n2 ∧ (n1 ≤ k ∨ n2 ≤ k)⟩
/-- the cells of such a zip -/
abbrev cellsZ (n : Nat) : List Addr := [n + 4, n + 2, n + 3, n, n + 1]
/-- the heap behind zip(list, tuple) -/
def laidZ (g : Heap) (a b : Addr) : Heap :=
  let n := g.objs.size
  ((((g.push { cls := .type "list_iterator", data := .fields #[.ref a, .int 0 0] }).push { cls := .type "tuple_iterator", data := .fields #[.ref b, .int 0 0] }).push { cls := .type "tuple", data := .seq #[.ref n, .ref (n + 1)] }).push
    { cls := .type "tuple", data := .seq #[.none, .none] }).push { cls := .type "zip", data := .fields #[.none, .bool false, .bool false, .ref (n + 2), .ref (n + 3)] }
def iZipM (K : PySem.W.Frag) (ta : TA) : TI := fun σ H R => ta σ H fun vs G => ∃ a b us ws, vs = [V.ref a, V.ref b] ∧ SqL K G a us ∧ SqT K G b ws ∧ R (ItzM K a b us.length ws.length) G
section
variable {K : PySem.W.Frag} {W : WX} {F : Hp} {env : En} {α β : Type} [ToD α] [ToD β]
end
end Mi
set_option maxHeartbeats 1000000
namespace Mi
open PySem PySem.Spec L2
open Evl (Ex)
/-! ### defs that give a new list -/
structure Nw (α : Type) where
  xs : List α
instance {α : Type} [ToD α] : ToD (Nw α) := ⟨fun z => .lst (z.xs.map ToD.d)⟩
instance {α : Type} : ToR (Nw α) := ⟨fun _ _ v H0 _ _ => ∃ p, v = .ref p ∧ H0 p = none⟩
section
variable {K : PySem.W.Frag} {W : WX} {F0 H0 F H : Hp} {rt : VK} {PT : En → Prop} {env : En} {te : TE} {Z : Ends} {α : Type} [ToD α] {KP : Res (Nw α) → Prop}
def KW (K : PySem.W.Frag) (W : WX) (F H : Hp) (σ : L2.St) (Q : VK) : Res (Nw α) → Prop
  | .ok z => ∀ p F' H', Adv F H F' H' → Rep K F' (toD z) (.ref p) → H p = none → Q (.ref p) H'
  | .exc c => ∀ F' H', Adv F H F' H' → W (.ref (He.ga K c)) none σ H'
  | .stuck => False
def spW (K : PySem.W.Frag) {δ : Type} [ToDs δ] (f : δ → Res (Nw α)) : Sp := fun vs H Q E => ∃ F x, Ex F H ∧ Reps K F (ToDs.ds x) vs ∧ KW K (fun cls d _ H => E cls d H) F H [] Q (f x)
end
section
variable {P : Program} {w : World} {K : PySem.W.Frag} {mg : Str → Option Value} {base : Heap} {x qual : Str} {params : Arguments} {body : List Stmt} {scope : Scope} {dvs : List V} {kws : List (Str × V)} {f : Addr} {fd : FuncData}
end
end Mi
set_option maxHeartbeats 1000000
namespace Mi
open PySem PySem.Spec L2
open Evl (Ex)
/-! ### texts: a walk over the signs, ord, len, +, *, join -/
def chars (x : Str) : List Str := x.cps.toList.map fun c => ⟨#[c]⟩
section
variable {K : PySem.W.Frag} {W : WX} {F : Hp} {env : En} {te to : TE}
def rLenT : List V → Hp → VK → Prop := fun xs H Q => ∃ y : Str, xs = [V.str y] ∧ y.length ≤ 16777216 ∧ Q (.int y.length) H
def rAddT : R2 := fun x y H Q => ∃ i j, x = .str i ∧ y = .str j ∧ i.length + j.length ≤ sizeLine ∧ Q (.str (i ++ j)) H
def repS (x : Str) (n : Int) : Str := ⟨(List.replicate n.toNat x.cps).foldl (· ++ ·) #[]⟩
def RepT (x : Str) (k : Int) : Prop := -(2 ^ 63) ≤ k ∧ k < 2 ^ 63 ∧ x.length * k.toNat ≤ 16777216
def rRepT : R2 := fun x y H Q => ∃ i k, x = .str i ∧ y = .int k ∧ RepT i k ∧ Q (.str (repS i k)) H
def rJoin (K : PySem.W.Frag) : V → List V → Hp → VK → Prop := fun x xs H Q => ∃ a p, ∃ ys : List Str, x = .str a ∧ xs = [.ref p] ∧ (SqL K H p (ys.map V.str) ∨ SqT K H p (ys.map V.str)) ∧
  (ys.map (·.length)).sum + ys.length * a.length ≤ 16777216 ∧ Q (.str (Txt.join a ys)) H
theorem cr_listof {X : Cx} (h : X.K = K) : CallR X (.type "list") (fun xs H Q => ∃ p ys, xs = [V.ref p] ∧ (SqL K H p ys ∨ SqT K H p ys) ∧ ∀ l, H l = none → Q (.ref l) (upd H l (.lst ys))) := by
  subst h; exact call_list_of
end
end Mi
set_option maxHeartbeats 1000000
namespace Mi
open PySem PySem.Spec L2
/-- short words for slots -/
abbrev iM {α : Type} [ToD α] (x : α) : Option Sk := some (.im (toD x))
abbrev oW {α : Type} [ToD α] (xs : List α) : Option Sk := some (.ow (xs.map toD))
/-! ### a tuple as the default of a keyword -/
def kwA (p : Str × Option Str) (x : Str) (K : PySem.W.Frag) : Addr := match K.lookup (He.fAd K p) with
  | some ⟨_, _, .func fd, _⟩ => (match fd.kwdefaults with
    | .ref D => (match PySem.W.nsIn K D x with
      | some (some (.ref b)) => b
      | _ => 0)
    | _ => 0)
  | _ => 0
def tupAB (K : PySem.W.Frag) (a : Addr) (vs : List V) : Bool := match K.lookup a with
  | some ⟨.type c, _, .seq its _, _⟩ => decide (c = "tuple") && (decide (its.size ≤ sizeLine) && He.relAll vs its.toList)
  | _ => false
/-! ### list(x) of a list or a tuple of ints -/
def D.asSeq : D → Res (List Int)
  | .lst i => intsOf i
  | .tup i => intsOf i
  | _ => .stuck
section
variable {K : PySem.W.Frag} {W : WX} {env : En} {te : TE}
end
/-! ### for x in reversed(a list) -/
section
open Evl (Ex)
variable {K : PySem.W.Frag} {W : WX} {F : Hp} {env : En} {te : TE} {α : Type} [ToD α]
end
end Mi
set_option maxHeartbeats 1000000
namespace Mi
open PySem PySem.W PySem.Calls PyProof.Rows HandSHeadRun
/-! ### the top in segments: what a piece of it gives within so many steps -/
section
variable (tb : String → Option Builtin) (p : Program) (w : World) (n0 : Nat) (ann : Option Value)
def Gs {α : Type} (B : List Frame) (lv : List Value → List Value) (m : Sem α) (s : Shared) (c : Code) (q : Pos) (n : Nat) (a : α) (s' : Shared) (c' : Code) (q' : Pos) : Prop :=
  ∀ (K : α → Sem Fin) (H : Value → Sem Fin) (N : Nat) (r : Shared), topRun tb p w n0 ann N s' ⟨K a, c', q', B⟩ = some r → topRun tb p w n0 ann (n + N) s ⟨m.wrap K H id lv, c, q, B⟩ = some r
end
section
variable {tb : String → Option Builtin} {p : Program} {w : World} {n0 : Nat} {ann : Option Value} {B : List Frame} {lv : List Value → List Value} {α β : Type} {s s1 s2 : Shared} {c c1 c2 : Code} {q q1 q2 : Pos} {n k : Nat}
theorem Gs.pure {a : α} : Gs tb p w n0 ann B lv (Pure.pure a : Sem α) s c q 0 a s c q := fun K H N r h => by
  rw [Nat.zero_add]; exact h
theorem Gs.mono {m : Sem α} {a : α} (h : Gs tb p w n0 ann B lv m s c q n a s1 c1 q1) (le : n ≤ k) : Gs tb p w n0 ann B lv m s c q k a s1 c1 q1 := fun K H N r hr => by
  have := h K H (N + (k - n)) r (topRun_mono _ _ _ _ _ hr)
  rw [show n + (N + (k - n)) = k + N by omega] at this
  exact this
theorem Gs.bind {m : Sem α} {f : α → Sem β} {a : α} {b : β} (h1 : Gs tb p w n0 ann B lv m s c q n a s1 c1 q1) (h2 : Gs tb p w n0 ann B lv (f a) s1 c1 q1 k b s2 c2 q2) : Gs tb p w n0 ann B lv (m >>= f) s c q (n + k) b s2 c2 q2 := fun K H N r h => by
  rw [Sem.bind_eq_wrap', Sem.wrap_wrap, Nat.add_assoc]
  exact h1 _ _ _ _ (h2 K H N r h)
theorem Gs.keep {m : Sem α} {a : α} {vs : List Value} (h : Gs tb p w n0 ann B (fun l => lv (vs ++ l)) m s c q n a s1 c1 q1) : Gs tb p w n0 ann B lv (m.keep vs) s c q n a s1 c1 q1 := fun K H N r hr => by
  rw [Sem.keep_eq_wrap, Sem.wrap_wrap]
  exact h K H N r hr
theorem step1 {t t' : Thread} {N : Nat} {r : Shared} (h0 : through t = false) (h1 : stepOk n0 ann t = true) (h2 : step (denote tb) p w s t = .go s1 t') (h : topRun tb p w n0 ann N s1 t' = some r) : topRun tb p w n0 ann (1 + N) s t = some r := by
  rw [Nat.add_comm]
  unfold topRun
  rw [h0, h1, h2]
  exact h
theorem Gs.rule {tag : String} : Gs tb p w n0 ann B lv (rule tag) s c q 1 () s c q := fun K H N r h =>
  step1 (by cases B <;> rfl) rfl (by obtain ⟨a, b, d, e, f⟩ := s; rfl) h
theorem Gs.standAt {pos : Pos} : Gs tb p w n0 ann B lv (standAt pos) s c q 1 () s c pos := fun K H N r h =>
  step1 (by cases B <;> rfl) rfl (by obtain ⟨a, b, d, e, f⟩ := s; rfl) h
theorem Gs.loadPart {a : Addr} {part : Option Value} {o : Obj} (ho : s.heap.get? a = some o) : Gs tb p w n0 ann B lv (loadPart a part) s c q 1 o s c q := fun K H N r h =>
  step1 (t' := ⟨K o, c, q, B⟩) (by cases B <;> rfl) rfl (by obtain ⟨a, b, d, e, f⟩ := s; simp only [PySem.loadPart, Sem.wrap, step, ho]; try rfl) h
theorem Gs.alloc {o : Obj} : Gs tb p w n0 ann B lv (alloc o) s c q 1 s.heap.objs.size { s with heap := s.heap.push o } c q := fun K H N r h =>
  step1 (by cases B <;> rfl) rfl (by obtain ⟨a, b, d, e, f⟩ := s; rfl) h
theorem Gs.point : Gs tb p w n0 ann B lv point s c q 1 () s c q := fun K H N r h =>
  step1 (by cases B <;> rfl) rfl (by obtain ⟨a, b, d, e, f⟩ := s; rfl) h
theorem Gs.forIn {x : List α} {f : α → β → Sem (ForInStep β)} {b : β} (h : ∀ y ∈ x, Gs tb p w n0 ann B lv (f y b) s c q n (.yield b) s c q) : Gs tb p w n0 ann B lv (forIn x b f) s c q (n * x.length) b s c q := by
  induction x with
  | nil => rw [List.forIn_nil]; exact Gs.pure
  | cons y r ih =>
    rw [List.forIn_cons, List.length_cons, Nat.mul_succ, Nat.add_comm]
    exact Gs.bind (h y List.mem_cons_self) (ih fun z hz => h z (List.mem_cons_of_mem _ hz))
/-- a piece that the kernel runs -/
theorem Gs.seg {m : Sem α} {res : α → Flow} {f : Flow} {a0 : α} (hB : splitAtGen B = none) (hf : ∀ a, res a = f → a = a0) (h : segRun tb p w n0 ann B.length n s ⟨m.wrap (fun a => .pure (.done (res a))) deadEnd id lv, c, q, B⟩ = some (f, s1, c1, q1)) :
    Gs tb p w n0 ann B lv m s c q n a0 s1 c1 q1 := fun K H N r hr => by
  obtain ⟨a, ha, k⟩ := seg_top (res := res) (K' := K) (H' := H) (gd := id) (lv := lv) hB n s ⟨m.wrap (fun a => .pure (.done (res a))) deadEnd id lv, c, q, B⟩ ⟨m.wrap K H id lv, c, q, B⟩ f s1 c1 q1 ⟨rfl, rfl, .inl ⟨rfl, rfl, m, rfl, rfl⟩⟩ h
  cases hf a ha
  exact k N r hr
end
/-! ### pieces that change nothing -/
def isRet : List Frame → Bool
  | .ret .. :: _ => true
  | _ => false
/-- a step that leaves the state as it is, and the place at the lowest level -/
def roOk (b : Nat) (t : Thread) : Bool := match t.cur with
  | .rule .. | .load .. | .loadIfAlive .. | .point .. | .ask .. | .stack .. | .handled .. | .call .. => true
  | .at .. => !(t.stack.length == b)
  | .pure _ | .raise _ => isRet t.stack && !(t.stack.length == b)
  | _ => false
inductive RoAt (B : List Frame) (c : Code) (q : Pos) : Thread → Prop
  | base (cur : Sem Fin) : RoAt B c q ⟨cur, c, q, B⟩
  | over (cur : Sem Fin) (code : Code) (pos : Pos) (fs : List Frame) (k : Result → Sem Fin) (h : Option Value) (g : Bool) (l kept : List Value) : RoAt B c q ⟨cur, code, pos, fs ++ .ret k h g l c q kept :: B⟩
theorem RoAt.deep {B : List Frame} {c : Code} {q : Pos} {t : Thread} (h : RoAt B c q t) (e : (t.stack.length == B.length) = true) : ∃ cur, t = ⟨cur, c, q, B⟩ := by
  cases h with
  | base cur => exact ⟨cur, rfl⟩
  | over cur code pos fs k h g l kept =>
    exfalso
    have := beq_iff_eq.mp e
    simp at this
    omega
section
variable {den : Code → Sem Fin} {p : Program} {w : World} {B : List Frame} {c : Code} {q : Pos}
theorem roAt_next {s s' : Shared} {t t' : Thread} (A : RoAt B c q t) (h : roOk B.length t = true) (hs : step den p w s t = .go s' t') : s' = s ∧ RoAt B c q t' := by
  obtain ⟨h1, h2, h3, h4, h5⟩ := s
  cases A with
  | base cur =>
    cases cur with
    | rule | point | ask | handled | stack => simp only [step, Step.go.injEq] at hs; obtain ⟨rfl, rfl⟩ := hs; exact ⟨rfl, .base _⟩
    | load a z k =>
      cases e : h1.get? a with
      | none => simp only [step, e] at hs; cases hs
      | some o => simp only [step, e, Step.go.injEq] at hs; obtain ⟨rfl, rfl⟩ := hs; exact ⟨rfl, .base _⟩
    | loadIfAlive a k => simp only [step, Step.go.injEq] at hs; obtain ⟨rfl, rfl⟩ := hs; exact ⟨rfl, .base _⟩
    | call cc hh gg ll kk =>
      simp only [step, Step.go.injEq] at hs; obtain ⟨rfl, rfl⟩ := hs
      exact ⟨rfl, .over _ _ _ [] _ _ _ _ _⟩
    | «at» z k => simp [roOk] at h
    | pure f => simp [roOk] at h
    | raise f => simp [roOk] at h
    | _ => cases h
  | over cur code pos fs k hd g l kept =>
    cases cur with
    | rule | point | ask | handled | stack | «at» => simp only [step, Step.go.injEq] at hs; obtain ⟨rfl, rfl⟩ := hs; exact ⟨rfl, .over ..⟩
    | load a z k =>
      cases e : h1.get? a with
      | none => simp only [step, e] at hs; cases hs
      | some o => simp only [step, e, Step.go.injEq] at hs; obtain ⟨rfl, rfl⟩ := hs; exact ⟨rfl, .over ..⟩
    | loadIfAlive a k => simp only [step, Step.go.injEq] at hs; obtain ⟨rfl, rfl⟩ := hs; exact ⟨rfl, .over ..⟩
    | call cc hh gg ll kk =>
      simp only [step, Step.go.injEq] at hs; obtain ⟨rfl, rfl⟩ := hs
      exact ⟨rfl, .over _ _ _ (_ :: fs) _ _ _ _ _⟩
    | pure f =>
      cases f with
      | done f =>
        cases fs with
        | nil => simp only [step, List.nil_append, Step.go.injEq] at hs; obtain ⟨rfl, rfl⟩ := hs; exact ⟨rfl, .base _⟩
        | cons F fs =>
          cases F with
          | ret => simp only [step, List.cons_append, Step.go.injEq] at hs; obtain ⟨rfl, rfl⟩ := hs; exact ⟨rfl, .over ..⟩
          | gen => simp [roOk, isRet] at h
      | again cc =>
        cases fs with
        | nil => rw [List.nil_append, PySem.W.step_again] at hs; simp only [Step.go.injEq] at hs; obtain ⟨rfl, rfl⟩ := hs; exact ⟨rfl, .over _ _ _ [] _ _ _ _ _⟩
        | cons F fs =>
          cases F with
          | ret => rw [List.cons_append, PySem.W.step_again] at hs; simp only [Step.go.injEq] at hs; obtain ⟨rfl, rfl⟩ := hs; exact ⟨rfl, .over _ _ _ (_ :: fs) _ _ _ _ _⟩
          | gen => simp [roOk, isRet] at h
    | raise f =>
      cases fs with
      | nil => simp only [step, List.nil_append, Step.go.injEq] at hs; obtain ⟨rfl, rfl⟩ := hs; exact ⟨rfl, .base _⟩
      | cons F fs =>
        cases F with
        | ret => simp only [step, List.cons_append, Step.go.injEq] at hs; obtain ⟨rfl, rfl⟩ := hs; exact ⟨rfl, .over ..⟩
        | gen => simp [roOk, isRet] at h
    | _ => cases h
end
section
variable (st : SharedT → Thread → Option (SharedT × Thread)) (n0 : Nat) (ann : Option Value)
def roRun (b : Nat) : Nat → SharedT → Thread → Option Flow
  | 0, _, _ => none
  | m + 1, s, t => match endAt b t with
    | some f => some f
    | none => match roOk b t && stepOk n0 ann t with
      | false => none
      | true => match st s t with
        | some (_, t') => roRun b m s t'
        | none => none
/-- so many steps, to the piece's end -/
def sgRun (b : Nat) : Nat → SharedT → Thread → Option (Flow × SharedT × Code × Pos)
  | 0, _, _ => none
  | m + 1, s, t => match endAt b t with
    | some f => some (f, s, t.code, t.pos)
    | none => match stepOk n0 ann t with
      | false => none
      | true => match st s t with
        | some (s', t') => frS s' fun s' => sgRun b m s' t'
        | none => none
end
section
variable {tb : String → Option Builtin} {p : Program} {w : World} {n0 : Nat} {ann : Option Value} {B : List Frame} {c : Code} {q : Pos}
theorem roRun_ok : ∀ {m : Nat} {s : SharedT} {t : Thread} {f : Flow}, RoAt B c q t → roRun (stepT (denote tb) p w) n0 ann B.length m s t = some f → segRun tb p w n0 ann B.length m s.abs t = some (f, s.abs, c, q)
  | 0, _, _, _, _, h => by cases h
  | m + 1, s, t, f, A, h => by
    unfold roRun at h
    unfold segRun
    cases he : endAt B.length t with
    | some x =>
      rw [he] at h
      cases h
      have e : (t.stack.length == B.length) = true := by
        unfold endAt at he
        split at he
        · assumption
        · cases he
      obtain ⟨cur, rfl⟩ := A.deep e
      rfl
    | none =>
      rw [he] at h
      cases hk : (roOk B.length t && stepOk n0 ann t) with
      | false => rw [hk] at h; cases h
      | true =>
        rw [hk] at h
        obtain ⟨k1, k2⟩ := Bool.and_eq_true_iff.mp hk
        rw [k2]
        cases hs : stepT (denote tb) p w s t with
        | none => rw [hs] at h; cases h
        | some r =>
          obtain ⟨s2, t2⟩ := r
          rw [hs] at h
          have e := stepT_spec hs
          obtain ⟨e1, A2⟩ := roAt_next A k1 e
          rw [e]
          show segRun tb p w n0 ann B.length m s2.abs t2 = _
          rw [e1]
          exact roRun_ok A2 h
theorem sgRun_ok : ∀ {m : Nat} {s s' : SharedT} {t : Thread} {f : Flow} {c' : Code} {q' : Pos} {b : Nat}, sgRun (stepT (denote tb) p w) n0 ann b m s t = some (f, s', c', q') → segRun tb p w n0 ann b m s.abs t = some (f, s'.abs, c', q')
  | 0, _, _, _, _, _, _, _, h => by cases h
  | m + 1, s, s', t, f, c', q', b, h => by
    unfold sgRun at h
    unfold segRun
    cases he : endAt b t with
    | some x => rw [he] at h; cases h; rfl
    | none =>
      rw [he] at h
      cases hk : stepOk n0 ann t with
      | false => rw [hk] at h; cases h
      | true =>
        rw [hk] at h
        cases hs : stepT (denote tb) p w s t with
        | none => rw [hs] at h; cases h
        | some r =>
          obtain ⟨s2, t2⟩ := r
          rw [hs] at h
          have h3 : (frS s2 fun s' => sgRun (stepT (denote tb) p w) n0 ann b m s' t2) = some (f, s', c', q') := h
          rw [frS_eq] at h3
          rw [stepT_spec hs]
          exact sgRun_ok h3
variable {α : Type} {lv : List Value → List Value}
theorem Gs.ro {m : Sem α} {res : α → Flow} {f : Flow} {a0 : α} {n : Nat} {s : SharedT} (hB : splitAtGen B = none) (hf : ∀ a, res a = f → a = a0)
    (h : roRun (stepT (denote tb) p w) n0 ann B.length n s ⟨m.wrap (fun a => .pure (.done (res a))) deadEnd id lv, c, q, B⟩ = some f) : Gs tb p w n0 ann B lv m s.abs c q n a0 s.abs c q :=
  Gs.seg hB hf (roRun_ok (.base _) h)
theorem Gs.sg {m : Sem α} {res : α → Flow} {f : Flow} {a0 : α} {n : Nat} {s s' : SharedT} {c' : Code} {q' : Pos} (hB : splitAtGen B = none) (hf : ∀ a, res a = f → a = a0)
    (h : sgRun (stepT (denote tb) p w) n0 ann B.length n s ⟨m.wrap (fun a => .pure (.done (res a))) deadEnd id lv, c, q, B⟩ = some (f, s', c', q')) : Gs tb p w n0 ann B lv m s.abs c q n a0 s'.abs c' q' :=
  Gs.seg hB hf (sgRun_ok h)
end
end Mi
set_option maxHeartbeats 1000000
namespace Mi
open PySem PySem.W PySem.Calls PyProof.Rows HandSHeadRun
/-! ### storing under keys that are tuples, whatever the hashes -/
section
variable {tb : String → Option Builtin} {p : Program} {w : World} {n0 : Nat} {ann : Option Value} {B : List Frame} {lv : List Value → List Value} {s s' : Shared} {c : Code} {q : Pos} {n F : Nat}
theorem Gs.hold1 {α : Type} {m : Sem α} {x : α} {a : Addr} {c' : Code} {q' : Pos} (h : Gs tb p w n0 ann B (fun l => lv ([.ref a] ++ l)) m s c q n x s' c' q') : Gs tb p w n0 ann B lv (holding [.ref a] m) s c q n x s' c' q' := Gs.keep (vs := [.ref a]) h
theorem Gs.hold2 {α : Type} {m : Sem α} {x : α} {a b : Addr} {c' : Code} {q' : Pos} (h : Gs tb p w n0 ann B (fun l => lv ([.ref a, .ref b] ++ l)) m s c q n x s' c' q') : Gs tb p w n0 ann B lv (holding [.ref a, .ref b] m) s c q n x s' c' q' := Gs.keep (vs := [.ref a, .ref b]) h
theorem Gs.entries {d : Addr} {o : Obj} {es : Array DictEntry} {ep : Nat} {part : Option Value} (ho : s.heap.get? d = some o) (hd : o.data = .dict es ep) : Gs tb p w n0 ann B lv (dictEntries d part) s c q 1 es s c q := by
  unfold dictEntries
  refine Gs.bind (n := 1) (k := 0) (Gs.loadPart ho) ?_
  rw [hd]
  exact Gs.pure
theorem Gs.epoch {d : Addr} {o : Obj} {es : Array DictEntry} {ep : Nat} {part : Option Value} (ho : s.heap.get? d = some o) (hd : o.data = .dict es ep) : Gs tb p w n0 ann B lv (dictEpoch d part) s c q 1 ep s c q := by
  unfold dictEpoch
  refine Gs.bind (n := 1) (k := 0) (Gs.loadPart ho) ?_
  rw [hd]
  exact Gs.pure
/-- what is known of the keys that stand, for a new key at a: quiet, and another -/
structure NewKey (tb : String → Option Builtin) (p : Program) (w : World) (n0 : Nat) (ann : Option Value) (B : List Frame) (lv : List Value → List Value) (s : Shared) (c : Code) (q : Pos) (F : Nat) (ks : List Addr) (a : Addr) : Prop where
  qa : Gs tb p w n0 ann B lv (eqIsQuiet 8 (.ref a)) s c q F true s c q
  qk : ∀ k ∈ ks, Gs tb p w n0 ann B lv (eqIsQuiet 8 (.ref k)) s c q F true s c q
  ne : ∀ k ∈ ks, k ≠ a ∧ Gs tb p w n0 ann B lv (eqBool (.ref k) (.ref a)) s c q F false s c q
theorem Gs.tell {ks : List Addr} {a : Addr} {stored : List Value} (N : NewKey tb p w n0 ann B lv s c q F ks a) (hs : ∀ v ∈ stored, ∃ k ∈ ks, v = .ref k) : Gs tb p w n0 ann B lv (tableMayTell (.ref a) stored) s c q (F + F * stored.length) false s c q := by
  unfold tableMayTell
  split
  · exact (Gs.pure).mono (Nat.zero_le _)
  · refine Gs.bind N.qa ?_
    simp only [Bool.not_true, Bool.false_eq_true, if_false]
    refine Gs.bind (n := F * stored.length) (k := 0) (Gs.forIn (b := (none, ())) fun v hv => ?_) Gs.pure
    obtain ⟨k, hk, rfl⟩ := hs v hv
    refine Gs.bind (n := F) (k := 0) (N.qk k hk) ?_
    simp only [Bool.not_true, Bool.false_eq_true, if_false]
    exact Gs.pure
theorem Gs.find {d a : Addr} {o : Obj} {es : Array DictEntry} {ep : Nat} {ks : List Addr} {h : Int} (ho : s.heap.get? d = some o) (hd : o.data = .dict es ep) (he : ∀ e ∈ es, ∃ k ∈ ks, e.key = .ref k)
    (N : NewKey tb p w n0 ann B (fun l => lv ([.ref a] ++ l)) s c q F ks a) : Gs tb p w n0 ann B lv (dictFind d (.ref a) h) s c q (1 + ((F + F * es.size) + (3 + F) * es.size)) none s c q := by
  have hany : ¬ (es.any fun e => e.key == Value.ref a && e.hash != h) = true := by
    rw [Array.any_eq_true']
    rintro ⟨e, hin, hc⟩
    obtain ⟨k, hk, e1⟩ := he e hin
    have e2 := (Bool.and_eq_true_iff.mp hc).1
    rw [e1] at e2
    have e3 := eq_of_beq e2
    injection e3 with e3
    exact (N.ne k hk).1 e3
  have hst : ∀ v ∈ (placesWithHash es.size (fun i => es[i]?.map (·.hash)) h).filterMap (fun i => es[i]?.map (·.key)), ∃ k ∈ ks, v = .ref k := by
    intro v hv
    obtain ⟨i, _, hi⟩ := List.mem_filterMap.mp hv
    cases hei : es[i]? with
    | none => rw [hei] at hi; cases hi
    | some e =>
      rw [hei] at hi
      obtain rfl : e.key = v := by simpa using hi
      exact he e (Array.mem_of_getElem? hei)
  have hl1 : (placesWithHash es.size (fun i => es[i]?.map (·.hash)) h).length ≤ es.size := by
    unfold placesWithHash
    exact Nat.le_trans (List.length_filter_le _ _) (by simp)
  have hl2 : ((placesWithHash es.size (fun i => es[i]?.map (·.hash)) h).filterMap (fun i => es[i]?.map (·.key))).length ≤ es.size := Nat.le_trans (List.length_filterMap_le _ _) hl1
  unfold dictFind
  refine Gs.hold1 ?_
  refine Gs.bind (Gs.entries ho hd) ?_
  dsimp only
  rw [if_neg (show ¬ ((Value.ref a :: (placesWithHash es.size (fun i => es[i]?.map (·.hash)) h).filterMap (fun i => es[i]?.map (·.key))).all carriedByValue) = true by simp [carriedByValue])]
  rw [if_neg hany]
  have body : ∀ i ∈ placesWithHash es.size (fun i => es[i]?.map (·.hash)) h, ∀ e, es[i]? = some e → ∃ k ∈ ks, e.key = .ref k := fun i _ e q => he e (Array.mem_of_getElem? q)
  by_cases hone : (((placesWithHash es.size (fun i => es[i]?.map (·.hash)) h).filterMap (fun i => es[i]?.map (·.key))) == [Value.ref a]) = true
  all_goals (first | rw [if_pos hone] | rw [if_neg hone])
  all_goals (first | refine Gs.bind (n := F + F * es.size) (k := (3 + F) * es.size) ((Gs.pure (a := false)).mono (Nat.zero_le _)) ?_ | refine Gs.bind (n := F + F * es.size) (k := (3 + F) * es.size) ((Gs.tell N hst).mono (Nat.add_le_add_left (Nat.mul_le_mul_left _ hl2) _)) ?_)
  all_goals
    rw [if_neg (by simp)]
    refine Gs.bind (n := (3 + F) * es.size) (k := 0) ((Gs.forIn (n := 3 + F) (b := (none, none)) fun i hi => ?_).mono (Nat.mul_le_mul_left _ hl1)) Gs.pure
    cases hei : es[i]? with
    | none => exact (Gs.pure).mono (Nat.zero_le _)
    | some e =>
      obtain ⟨k, hk, e1⟩ := body i hi e hei
      dsimp only
      rw [e1]
      split
      · rw [show 3 + F = 1 + (F + (1 + 1)) by omega]
        refine Gs.bind (Gs.epoch ho hd) (Gs.bind (N.ne k hk).2 (Gs.bind (Gs.epoch ho hd) ?_))
        rw [if_neg (by simp), if_neg (by simp)]
        refine Gs.bind (n := 1) (k := 0) Gs.rule ?_
        rw [if_neg (by simp)]
        exact Gs.pure
      · exact (Gs.pure).mono (Nat.zero_le _)
/-- what a value's hash is taken from: some text of a call -/
abbrev refuseH (v : Value) : Sem Value := do rule "hash.unhashable"; raiseError "TypeError" s!"unhashable type: '{← typeNameOf v}'"
abbrev callHash (a : Addr) : Sem (Option Value) := callSpecialIfBoundUnlessNone? (.ref a) "__hash__" (refuseH (.ref a))
theorem Gs.hash {a : Addr} {H : Int} {t : Tok} {s1 : Shared} {c1 : Code} {q1 : Pos} (h1 : Gs tb p w n0 ann B lv (cRoomFor "hash" [.ref a]) s c q F () s c q) (h2 : Gs tb p w n0 ann B lv (specialOf (.ref a) "__hash__") s c q F (some (.builtin "tuple.__hash__")) s c q)
    (h3 : Gs tb p w n0 ann B lv (callHash a) s c q F (some (.int H t)) s1 c1 q1) : Gs tb p w n0 ann B lv (pyHash (.ref a)) s c q (F + (F + (F + (F + 1)))) (reduceHash H) s1 c1 q1 := by
  unfold pyHash
  unfold pyHashByItsType
  refine Gs.bind h1 ?_
  refine Gs.bind h2 ?_
  rw [if_neg (by rw [show ((some (Value.builtin "tuple.__hash__") : Option Value) == some Value.none) = false from rfl]; exact Bool.false_ne_true)]
  refine Gs.bind h2 ?_
  rw [if_neg (by simp)]
  refine Gs.bind h3 ?_
  dsimp only
  unfold pyHashByItsType.reduced reduceHash
  split
  · exact (Gs.pure).mono (Nat.zero_le _)
  · exact Gs.bind (n := 1) (k := 0) Gs.rule Gs.pure
theorem Gs.set {d a b : Addr} {o : Obj} {es : Array DictEntry} {ep : Nat} {ks : List Addr} {H : Int} {t : Tok} {s1 s2 : Shared} {c1 c2 : Code} {q1 q2 : Pos} (h1 : Gs tb p w n0 ann B (fun l => lv ([.ref a, .ref b] ++ l)) (cRoomFor "hash" [.ref a]) s c q F () s c q)
    (h2 : Gs tb p w n0 ann B (fun l => lv ([.ref a, .ref b] ++ l)) (specialOf (.ref a) "__hash__") s c q F (some (.builtin "tuple.__hash__")) s c q) (h3 : Gs tb p w n0 ann B (fun l => lv ([.ref a, .ref b] ++ l)) (callHash a) s c q F (some (.int H t)) s1 c1 q1)
    (ho : s1.heap.get? d = some o) (hd : o.data = .dict es ep) (he : ∀ e ∈ es, ∃ k ∈ ks, e.key = .ref k)
    (N : NewKey tb p w n0 ann B (fun l => lv ([.ref a, .ref b] ++ ([.ref a, .ref b] ++ ([.ref a] ++ l)))) s1 c1 q1 F ks a)
    (up : Gs tb p w n0 ann B (fun l => lv ([.ref a, .ref b] ++ ([.ref a, .ref b] ++ l))) (updateDictKeys d (·.push ⟨reduceHash H, .ref a, .ref b⟩) (keyPart (.ref a))) s1 c1 q1 F () s2 c2 q2) :
    Gs tb p w n0 ann B lv (dictSet d (.ref a) (.ref b)) s c q (F + (F + (F + (F + 1))) + ((1 + ((F + F * es.size) + (3 + F) * es.size)) + (1 + F))) () s2 c2 q2 := by
  unfold dictSet
  refine Gs.hold2 ?_
  refine Gs.bind (Gs.hash h1 h2 h3) ?_
  unfold dictSetHashed
  refine Gs.hold2 ?_
  refine Gs.bind (Gs.find ho hd he N) ?_
  dsimp only
  exact Gs.bind Gs.rule up
end
end Mi
set_option maxHeartbeats 1000000
namespace Mi
open PySem PySem.W PySem.Calls PyProof.Rows HandSHeadRun
/-! ### the same, worked out -/
abbrev fuelT : Nat := 20000
def resU : Unit → Flow := fun _ => .next
def resB : Bool → Flow := fun b => match b with
  | true => .brk
  | false => .cont
def resN : Option Value → Flow := fun o => match o with
  | some (.builtin id) => (match decide (id = "tuple.__hash__") with
    | true => .brk
    | false => .cont)
  | _ => .next
def resV : Option Value → Flow := fun o => match o with
  | some v => .ret v
  | none => .next
def resA : Addr → Flow := fun a => .ret (.ref a)
def resO : Option (List Str) → Flow := fun o => match o with
  | none => .next
  | some _ => .brk
/-- the pairs' addresses -/
def asRefs : List (Value × Value) → List (Nat × Nat) → Bool
  | [], [] => true
  | (.ref a, .ref b) :: r, (x, y) :: t => Nat.beq a x && (Nat.beq b y && asRefs r t)
  | _, _ => false
abbrev refP (x : Nat × Nat) : Value × Value := (.ref x.1, .ref x.2)
def resP (kvs : List (Nat × Nat)) : List (Value × Value) → Flow := fun l => resB (asRefs l kvs)
theorem resA_ok {a d : Addr} (h : resA a = .ret (.ref d)) : a = d := by cases h; rfl
section
variable (st : SharedT → Thread → Option (SharedT × Thread)) (n0 : Nat) (ann : Option Value) (B : List Frame)
def roB {α : Type} (m : Sem α) (res : α → Flow) (lv : List Value → List Value) (s : SharedT) (c : Code) (q : Pos) : Option Flow := roRun st n0 ann B.length fuelT s ⟨m.wrap (fun a => .pure (.done (res a))) deadEnd id lv, c, q, B⟩
def sgB {α : Type} (m : Sem α) (res : α → Flow) (lv : List Value → List Value) (s : SharedT) (c : Code) (q : Pos) : Option (Flow × SharedT × Code × Pos) := sgRun st n0 ann B.length fuelT s ⟨m.wrap (fun a => .pure (.done (res a))) deadEnd id lv, c, q, B⟩
def isBrk : Option Flow → Bool
  | some .brk => true
  | _ => false
def isCont : Option Flow → Bool
  | some .cont => true
  | _ => false
def isNext : Option Flow → Bool
  | some .next => true
  | _ => false
def newB (lv : List Value → List Value) (s : SharedT) (c : Code) (q : Pos) (ks : List Addr) (a : Addr) : Bool :=
  isBrk (roB st n0 ann B (eqIsQuiet 8 (.ref a)) resB lv s c q) && ks.all fun k => isBrk (roB st n0 ann B (eqIsQuiet 8 (.ref k)) resB lv s c q) && (!(Nat.beq k a) && isCont (roB st n0 ann B (eqBool (.ref k) (.ref a)) resB lv s c q))
def keyB (ks : List Addr) (e : DictEntry) : Bool := match e.key with
  | .ref k => ks.any fun x => Nat.beq k x
  | _ => false
def dictB (ks : List Addr) (o : Option Obj) : Bool := match o with
  | some ⟨_, _, .dict es _, _⟩ => es.toList.all (keyB ks) && Nat.ble es.size 16
  | _ => false
def setB (d : Addr) (lv : List Value → List Value) (a b : Addr) (ks : List Addr) (s : SharedT) (c : Code) (q : Pos) : Option (SharedT × Code × Pos) :=
  match isNext (roB st n0 ann B (cRoomFor "hash" [.ref a]) resU (fun l => lv ([.ref a, .ref b] ++ l)) s c q) && isBrk (roB st n0 ann B (specialOf (.ref a) "__hash__") resN (fun l => lv ([.ref a, .ref b] ++ l)) s c q) with
  | false => none
  | true => match sgB st n0 ann B (callHash a) resV (fun l => lv ([.ref a, .ref b] ++ l)) s c q with
    | some (.ret (.int H _), s1, c1, q1) => (match newB st n0 ann B (fun l => lv ([.ref a, .ref b] ++ ([.ref a, .ref b] ++ ([.ref a] ++ l)))) s1 c1 q1 ks a && dictB ks (getT s1 d) with
      | true => (match sgB st n0 ann B (updateDictKeys d (·.push ⟨reduceHash H, .ref a, .ref b⟩) (keyPart (.ref a))) resU (fun l => lv ([.ref a, .ref b] ++ ([.ref a, .ref b] ++ l))) s1 c1 q1 with
        | some (.next, s2, c2, q2) => some (s2, c2, q2)
        | _ => none)
      | false => none)
    | _ => none
def storeB (d : Addr) (lv : List Value → List Value) : List (Nat × Nat) → List Addr → SharedT → Code → Pos → Option (SharedT × Code × Pos)
  | [], _, s, c, q => some (s, c, q)
  | x :: r, ks, s, c, q => match setB st n0 ann B d lv x.1 x.2 ks s c q with
    | some (s1, c1, q1) => storeB d lv r (x.1 :: ks) s1 c1 q1
    | none => none
end
def nSet : Nat := fuelT + (fuelT + (fuelT + (fuelT + 1))) + ((1 + ((fuelT + fuelT * 16) + (3 + fuelT) * 16)) + (1 + fuelT))
section
variable {p : Program} {w : World} {n0 : Nat} {ann : Option Value} {B : List Frame}
abbrev GsT {α : Type} (p : Program) (w : World) (n0 : Nat) (ann : Option Value) (B : List Frame) (lv : List Value → List Value) (m : Sem α) (s : SharedT) (c : Code) (q : Pos) (n : Nat) (a : α) (s' : SharedT) (c' : Code) (q' : Pos) : Prop := Gs treeTable p w n0 ann B lv m s.abs c q n a s'.abs c' q'
theorem sgB_ok {α : Type} {m : Sem α} {res : α → Flow} {lv : List Value → List Value} {s s' : SharedT} {c c' : Code} {q q' : Pos} {f : Flow} {a0 : α} (hB : splitAtGen B = none) (hf : ∀ a, res a = f → a = a0) (h : sgB (stepT (denote treeTable) p w) n0 ann B m res lv s c q = some (f, s', c', q')) :
    GsT p w n0 ann B lv m s c q fuelT a0 s' c' q' := Gs.sg hB hf h
end
end Mi
set_option maxHeartbeats 1000000
namespace Mi
open PySem PySem.W PySem.Calls PyProof.Rows HandSHeadRun
/-! ### the statement -/
def pairsE (env : Env) (pos : Pos) : List Expr → List Expr → List (Sem Value × Sem Value)
  | k :: ks, v :: vs => (eval k env, do let x ← eval v env; standAt pos; pure x) :: pairsE env pos ks vs
  | _, _ => []
structure TurnD where
  pre : List Stmt
  tg : List Expr
  ks : List Expr
  vs : List Expr
  dpos : Pos
  pos : Pos
  post : List Stmt
  kvs : List (Nat × Nat)
def TurnD.stmt (T : TurnD) : Stmt := .Assign T.tg (.Dict (T.ks.map some) T.vs T.dpos) T.pos
abbrev newD : Obj := { cls := .type "dict", data := .dict #[] }
section
variable (st : SharedT → Thread → Option (SharedT × Thread)) (n0 : Nat) (ann : Option Value) (B : List Frame)
def lvD (d : Addr) (kvs : List (Nat × Nat)) : List Value → List Value := fun l => ([.ref d] : List Value) ++ (((kvs.map refP).flatMap fun x => [x.1, x.2]).filter Value.isRef ++ l)
def dispB (T : TurnD) (env : Env) (s : SharedT) (c : Code) (q : Pos) : Option (Addr × SharedT × Code × Pos) :=
  match sgB st n0 ann B (alloc newD) resA id s c T.dpos with
  | some (.ret (.ref d), s1, c1, q1) => (match sgB st n0 ann B (evalPairs (pairsE env T.dpos T.ks T.vs)) (resP T.kvs) (fun l => ([.ref d] : List Value) ++ l) s1 c1 q1 with
    | some (.brk, s2, c2, q2) => (match storeB st n0 ann B d (lvD d T.kvs) T.kvs [] s2 c2 q2 with
      | some (s3, c3, q3) => some (d, s3, c3, q3)
      | none => none)
    | _ => none)
  | _ => none
def assB (T : TurnD) (env : Env) (s : SharedT) (c : Code) (q : Pos) : Option (SharedT × Code × Pos) :=
  match sgB st n0 ann B (swapsWithSole T.tg (.Dict (T.ks.map some) T.vs T.dpos) T.pos.line env) resB id s c T.pos with
  | some (.cont, s1, c1, q1) => (match dispB st n0 ann B T env s1 c1 q1 with
    | some (d, s2, c2, q2) => (match sgB st n0 ann B (swappedStores T.tg (.Dict (T.ks.map some) T.vs T.dpos) env) resO id s2 c2 q2 with
      | some (.next, s3, c3, q3) => (match sgB st n0 ann B (assignStores env (.ref d) none ((assignEach T.tg env).map (·.2))) id id s3 c3 q3 with
        | some (.next, s4, c4, q4) => some (s4, c4, q4)
        | _ => none)
      | _ => none)
    | none => none)
  | _ => none
end
def nDisp (k : Nat) : Nat := 1 + (fuelT + (fuelT + nSet * k))
def nAss (k : Nat) : Nat := 1 + (fuelT + (nDisp k + (fuelT + fuelT)))
section
variable {p : Program} {w : World} {n0 : Nat} {ann : Option Value} {B : List Frame}
theorem Gs.hold {tb : String → Option Builtin} {lv : List Value → List Value} {α : Type} {m : Sem α} {x : α} {vs : List Value} {s s' : Shared} {c c' : Code} {q q' : Pos} {n : Nat} (h : Gs tb p w n0 ann B (fun l => lv (vs.filter Value.isRef ++ l)) m s c q n x s' c' q') : Gs tb p w n0 ann B lv (holding vs m) s c q n x s' c' q' := by
  rw [holding_eq_keep]
  exact Gs.keep h
end
end Mi
set_option maxHeartbeats 1000000
namespace Mi
open PySem PySem.W PySem.Calls PyProof.Rows HandSHeadRun
/-! ### the top with such a statement in it -/
def envT (p : Program) (code : Value) (fr : Addr) : Env := { scope := p.main.scope, locals := mainNs, globals := mainNs, cells := [], code := code, frame := some fr }
def frT1 (c : Code) (q : Pos) : List Frame := [.ret topAfter none false [] c q []]
section
variable (st : SharedT → Thread → Option (SharedT × Thread)) (n0 : Nat) (ann : Option Value)
def bodyB (p : Program) (T : TurnD) (M : Nat) (env : Env) (B : List Frame) (s : SharedT) (q : Pos) : Option SharedT :=
  match sgB st n0 ann B (blockStart (behindTheImports p) env) resU id s (.body (behindTheImports p) env) q with
  | some (.next, s1, c1, q1) => (match sgRun st n0 ann B.length M s1 ⟨(execs T.pre env).wrap (fun f => .pure (.done (id f))) deadEnd id id, c1, q1, B⟩ with
    | some (.next, s2, c2, q2) => (match assB st n0 ann B T env s2 c2 q2 with
      | some (s3, c3, q3) => goF st n0 ann M s3 ⟨(execs T.post env).wrap doneF (leaveH env) id id, c3, q3, B⟩
      | none => none)
    | _ => none)
  | _ => none
def topB (p : Program) (T : TurnD) (M : Nat) (s : SharedT) : Option SharedT :=
  match sgB st n0 ann [] (moduleCode p.main) (fun v => .ret v) id s (.builtin "claim.caller" {}) default with
  | some (.ret code, s1, c1, q1) => (match sgB st n0 ann [] (newBodyFrame code mainNs mainNs) resA id s1 c1 q1 with
    | some (.ret (.ref fr), s2, c2, q2) => bodyB st n0 ann p T M (envT p code fr) (frT1 c2 q2) s2 q2
    | _ => none)
  | _ => none
end
section
variable {p : Program} {w : World} {n0 : Nat} {ann : Option Value}
def nTop (k M : Nat) : Nat := fuelT + (fuelT + (1 + (fuelT + (M + (nAss k + M)))))
end
end Mi
set_option maxHeartbeats 1000000
namespace Mi
open PySem PySem.W PySem.Calls PyProof.Rows HandSHeadRun
/-! ### the imports, the fences, and such a top -/
def wholeT (st : Program → SharedT → Thread → Option (SharedT × Thread)) (fence : Program → Shared → Option Shared) (N M : Nat) (p : Program) (T : TurnD) : Option (Shared × SharedT) :=
  (impF (st (opening p)) N (startT (opening p)) (start (opening p)).2).bind fun i => (fence p i.abs).bind fun s0 =>
    cond (s0.heap.isNs mainGlobals && s0.gens.size == 0) ((treeOf s0).bind fun x => frS x fun x => (topB (st p) x.n (s0.heap.nsMap mainGlobals "__annotations__") p T M x).map fun s1 => (s0, s1)) none
noncomputable abbrev runT (w : World) (N M : Nat) (p : Program) (T : TurnD) : Option (Shared × SharedT) := wholeT (fun p => stepQ (denQ tabQ) p w) fenceQ N M p T
noncomputable abbrev seeT (r : OpenRow) (q : Program) (loose : List PySem.Str) :=
  fun (x : Shared × SharedT) => (looksF r.prog x.1.heap x.2.abs, seenQ q loose (importedModules r.prog.main.body) (fun s => xlAt q [] s && recOk r.toRowW.records s) x.2.abs)
/-- the whole run's equation at a world -/
structure RunEqT (r : OpenRow) (q : Program) (H : Hook) (ob : SharedT → H.α) (N M : Nat) (T : TurnD) (loose : List PySem.Str) (w : World) : Prop where
  see : (runT w N M r.prog T).map (seeT r q loose) = some (true, openGood q loose)
  ob : (runT w N M r.prog T).map (fun x => ob x.2) = some (H.val w)
end Mi
set_option maxHeartbeats 1000000
namespace Mi
open PySem PySem.W PySem.Calls PyProof.Rows
/-! ### the statement, taken out of the program -/
def turnAt (b : List Stmt) (i : Nat) (kvs : List (Nat × Nat)) : TurnD := match b[i]? with
  | some (.Assign tg (.Dict ks vs dpos) pos) => ⟨b.take i, tg, ks.filterMap id, vs, dpos, pos, b.drop (i + 1), kvs⟩
  | _ => ⟨[], [], [], [], default, default, [], []⟩
def turnOf (p : Program) (i : Nat) (kvs : List (Nat × Nat)) : TurnD := turnAt (behindTheImports p) i kvs
end Mi
set_option maxHeartbeats 1000000
namespace Mi
open PySem PySem.W PySem.Calls PyProof.Rows HandSHeadRun
/-! ### the top in pieces, from one written state to the next -/
section
variable (p : Program) (w : World) (n0 : Nat) (ann : Option Value) (env : Env) (B : List Frame)
/-- what follows the statements R -/
def RunP (R : List Stmt) (s : SharedT) (c : Code) (q : Pos) (k : Nat) (s' : SharedT) : Prop :=
  topRun treeTable p w n0 ann k s.abs ⟨(execs R env).wrap doneF (leaveH env) id id, c, q, B⟩ = some s'.abs
end
section
variable {p : Program} {w : World} {n0 : Nat} {ann : Option Value} {env : Env} {B : List Frame} {s s1 s' : SharedT} {c c1 : Code} {q q1 : Pos} {M k : Nat}
noncomputable abbrev stQ (p : Program) (w : World) : SharedT → Thread → Option (SharedT × Thread) := stepQ (denQ tabQ) p w
theorem stQ_eq (p : Program) (w : World) : stepT (denote treeTable) p w = stQ p w := by rw [stepQ_eq, denQ_eq, tabQ_eq]
theorem runP_nil (h : goF (stQ p w) n0 ann M s ⟨(execs [] env).wrap doneF (leaveH env) id id, c, q, B⟩ = some s') : RunP p w n0 ann env B [] s c q M s' := by
  rw [← stQ_eq] at h
  exact goF_ok h
theorem runP_app {A R : List Stmt} (hB : splitAtGen B = none) (h : sgRun (stQ p w) n0 ann B.length M s ⟨(execs A env).wrap (fun f => .pure (.done (id f))) deadEnd id id, c, q, B⟩ = some (.next, s1, c1, q1)) (hr : RunP p w n0 ann env B R s1 c1 q1 k s') : RunP p w n0 ann env B (A ++ R) s c q (M + k) s' := by
  rw [← stQ_eq] at h
  unfold RunP
  rw [execs_app_wrap]
  exact (Gs.sg (a0 := Flow.next) hB (fun _ e => e) h : GsT ..) _ _ _ _ hr
end
/-- an object, its epoch worked out -/
def nrmO (o : Obj) : Obj := match o with
  | ⟨c, d, .dict es n, s⟩ => frNat n fun n => ⟨c, d, .dict es n, s⟩
  | o => o
theorem nrmO_eq (o : Obj) : nrmO o = o := by
  unfold nrmO
  split
  · rw [frNat_eq]
  · rfl
theorem nrmL_eq (l : List Obj) : l.map nrmO = l := by
  rw [show nrmO = id from funext nrmO_eq, List.map_id]
/-- the imports and the fences: what is there then -/
def openL (st : Program → SharedT → Thread → Option (SharedT × Thread)) (fence : Program → Shared → Option Shared) (N : Nat) (p : Program) : Option (List Obj × Life × Array GenState × Drawn × Nat × OsState) :=
  (impF (st (opening p)) N (startT (opening p)) (start (opening p)).2).bind fun i => (fence p i.abs).map fun s0 => (s0.heap.objs.toList.map nrmO, s0.heap.life, s0.gens, s0.drawn, s0.toks, s0.os)
/-- the module's code, its frame, the block's start -/
def startB (st : SharedT → Thread → Option (SharedT × Thread)) (n0 : Nat) (ann : Option Value) (p : Program) (x : SharedT) : Option (SharedT × Value × Addr × Code × Pos × Code × Pos) :=
  match sgB st n0 ann [] (moduleCode p.main) (fun v => .ret v) id x (.builtin "claim.caller" {}) default with
  | some (.ret code, s1, c1, q1) => (match sgB st n0 ann [] (newBodyFrame code mainNs mainNs) resA id s1 c1 q1 with
    | some (.ret (.ref fr), s2, c2, q2) => (match sgB st n0 ann (frT1 c2 q2) (blockStart (behindTheImports p) (envT p code fr)) resU id s2 (.body (behindTheImports p) (envT p code fr)) q2 with
      | some (.next, s3, c3, q3) => some (s3, code, fr, c2, q2, c3, q3)
      | _ => none)
    | _ => none)
  | _ => none
noncomputable abbrev openQ (w : World) (N : Nat) (p : Program) := openL (fun p => stQ p w) fenceQ N p
section
variable {p : Program} {w : World} {N k n0 : Nat} {x s3 s' : SharedT} {ann : Option Value} {code : Value} {fr : Addr} {c2 c3 : Code} {q2 q3 : Pos}
theorem openQ_eq (w : World) (N : Nat) (p : Program) : openL (fun q => stepT (denote treeTable) q w) fenceModules? N p = openQ w N p := by
  unfold openQ stQ
  rw [stepQ_eq, denQ_eq, tabQ_eq, fenceQ_eq]
theorem openQ_ok {l : List Obj} (h : openQ w N p = some (l, x.life, x.gens, x.drawn, x.toks, x.os)) (hx : x.abs.heap.objs.toList = l) : fencedOpening treeTable p w N = some x.abs := by
  rw [← openQ_eq] at h
  unfold openL at h
  obtain ⟨i, h1, h⟩ := Option.bind_eq_some_iff.mp h
  obtain ⟨z, h2, h⟩ := Option.map_eq_some_iff.mp h
  have a := impF_ok h1
  rw [startT_eq] at a
  simp only [Prod.mk.injEq] at h
  obtain ⟨e1, e2, e3, e4, e5, e6⟩ := h
  rw [nrmL_eq] at e1
  have e : z = x.abs := by
    obtain ⟨⟨zo, zl⟩, zg, zd, zt, zs⟩ := z
    obtain ⟨t, n, l1, g1, d1, t1, o1⟩ := x
    dsimp only at e1 e2 e3 e4 e5 e6
    subst e2 e3 e4 e5 e6
    have : zo = (absHeap t n zl).objs := Array.ext' (by rw [e1]; exact hx.symm)
    subst this
    rfl
  unfold fencedOpening
  rw [a, ← e]
  exact h2
theorem startB_ok (h : startB (stQ p w) n0 ann p x = some (s3, code, fr, c2, q2, c3, q3)) (hr : RunP p w n0 ann (envT p code fr) (frT1 c2 q2) (behindTheImports p) s3 c3 q3 k s') :
    topRun treeTable p w n0 ann (fuelT + (fuelT + (1 + (fuelT + k)))) x.abs (topStub p) = some s'.abs := by
  rw [← stQ_eq] at h
  unfold startB at h
  split at h
  · rename_i code' s1 c1 q1 e1
    split at h
    · rename_i fr' s2 c2' q2' e2
      split at h
      · rename_i s3' c3' q3' e3
        simp only [Option.some.injEq, Prod.mk.injEq] at h
        obtain ⟨rfl, rfl, rfl, rfl, rfl, rfl, rfl⟩ := h
        have hB : splitAtGen (frT1 c2' q2') = none := rfl
        have e : topRun treeTable p w n0 ann (fuelT + k) s2.abs ⟨denote treeTable (.body (behindTheImports p) (envT p code' fr')), .body (behindTheImports p) (envT p code' fr'), q2', frT1 c2' q2'⟩ = some s'.abs := by
          rw [body_wrap]
          exact (sgB_ok (a0 := ()) hB (fun _ _ => rfl) e3 : GsT ..) _ _ _ _ hr
        unfold topStub
        rw [Sem.bind_eq_wrap']
        refine (sgB_ok (a0 := code') rfl (fun a e => by cases e; rfl) e1 : GsT ..) _ _ _ _ ?_
        rw [Sem.bind_eq_wrap']
        refine (sgB_ok (a0 := fr') rfl (fun _ => resA_ok) e2 : GsT ..) _ _ _ _ ?_
        exact step1 rfl rfl rfl e
      · cases h
    · cases h
  · cases h
end
/-- the whole run, in written states -/
structure RunW (p : Program) (w : World) (N k : Nat) (x s' : SharedT) : Prop where
  o : fencedOpening treeTable p w N = some x.abs
  g : (x.abs.heap.isNs mainGlobals && x.abs.gens.size == 0) = true
  t : topRun treeTable p w x.abs.heap.objs.size (x.abs.heap.nsMap mainGlobals "__annotations__") k x.abs (topStub p) = some s'.abs
theorem runW_of {p : Program} {w : World} {N k n0 : Nat} {x s3 s' : SharedT} {ann : Option Value} {code : Value} {fr : Addr} {c2 c3 : Code} {q2 q3 : Pos} {l : List Obj} (ho : openQ w N p = some (l, x.life, x.gens, x.drawn, x.toks, x.os)) (hx : x.abs.heap.objs.toList = l)
    (hg : (x.abs.heap.isNs mainGlobals && x.abs.gens.size == 0) = true) (hn : x.abs.heap.objs.size = n0) (ha : x.abs.heap.nsMap mainGlobals "__annotations__" = ann)
    (h : startB (stQ p w) n0 ann p x = some (s3, code, fr, c2, q2, c3, q3)) (hr : RunP p w n0 ann (envT p code fr) (frT1 c2 q2) (behindTheImports p) s3 c3 q3 k s') :
    RunW p w N (fuelT + (fuelT + (1 + (fuelT + k)))) x s' := by
  subst hn ha
  exact ⟨openQ_ok ho hx, hg, startB_ok h hr⟩
theorem left_pieces {p q : Program} {loose : List PySem.Str} {Xt : Shared → Bool} {α : Type} {Yf : Shared → α} {Ya : World → α} {N k : Nat} {x s' : World → SharedT} (hN : Nat.ble k N = true) (run : ∀ w, RunW p w N k (x w) (s' w))
    (see : ∀ w : World, (looksF p (x w).abs.heap (s' w).abs, openSeen q loose (importedModules p.main.body) Xt true (s' w).abs, Yf (s' w).abs) = (true, openGood q loose, Ya w)) : LeftO p q loose Xt Yf Ya N true := fun w => by
  obtain ⟨o, g, t⟩ := run w
  obtain ⟨v1, v⟩ := Prod.mk.inj (see w)
  have t' := topRun_mono (N - k) _ _ _ _ t
  rw [show k + (N - k) = N by have := Nat.le_of_ble_eq_true hN; omega] at t'
  have l : topFrom treeTable p w N (x w).abs = some (s' w).abs := by
    unfold topFrom
    rw [g]
    dsimp only
    rw [t', Option.bind_some]
    have v2 : (staticsOk (importedModules p.main.body) (x w).abs.heap (s' w).abs.heap && namesBound p (s' w).abs.heap && gensDone (s' w).abs && laidKept (x w).abs.heap (s' w).abs.heap) = true := v1
    rw [v2]
  show ((fencedOpening treeTable p w N).bind (topFrom treeTable p w N)).map _ = _
  rw [o, Option.bind_some, l]
  exact congrArg some v
theorem head_pieces {r : OpenRow} {q : Program} {H : Hook} {ob : SharedT → H.α} {N k : Nat} {x s' : World → SharedT} {loose : List PySem.Str} {d : DefRec} {kwd : List (PySem.Str × PySem.Expr)} (ho : ∀ s : SharedT, ob s = H.obs s.abs)
    (hN : Nat.ble k N = true) (run : ∀ w, RunW r.prog w N k (x w) (s' w))
    (h1 : ∀ w, looksF r.prog (x w).abs.heap (s' w).abs = true) (h2 : ∀ w, seenQ q loose (importedModules r.prog.main.body) (fun s => xlAt q [] s && recOk r.toRowW.records s) (s' w).abs = openGood q loose) (h3 : ∀ w, ob (s' w) = H.val w)
    (hdef : defOf q r.name = some (d, kwd)) (hp : r.prog.theDef r.name = some (d.params, d.body, d.scope)) (hk : kwWritten? d.params.kwonlyargs d.params.kw_defaults = some kwd) (hwr : (!r.writes || r.records.isEmpty) = true) (k1 : r.wellSaid = true)
    (ok : (chainsOk q && opensWell r.prog && (frees r.toRowW && r.within.isEmpty)) = true) (bare : r.prog.bare) (hw : r.toRowW.promised) (call : WalkO q loose (XL q []) H.says r.toRowW d kwd fun f vs => PySem.call f vs) : r.Holds := by
  have left : LeftO r.prog q loose (fun s => xlAt q [] s && recOk r.toRowW.records s) H.obs H.val N true := by
    refine left_pieces hN run fun w => ?_
    have e3 := h3 w
    rw [ho] at e3
    rw [h1 w, seenQ_eq, h2 w, e3]
  refine holds_open (XP := XL q []) (YP := H.says) left H.of H.keeps ?_ XL.keeps hdef hp hk ?_ hwr k1 ok bare hw call
  · exact fun s z => xl_of s (Bool.and_eq_true_iff.mp z).1
  · exact fun s z => recFacts_of (Bool.and_eq_true_iff.mp z).2
/-! ### words for written objects -/
abbrev vS (x : String) (t : Nat) : Value := .str (.ofString x) t
abbrev vI (i : Int) (t : Nat) : Value := .int i t
abbrev vR (a : Nat) : Value := .ref a
abbrev vB (b : String) : Value := .builtin b
abbrev vT (b : String) : Value := .type b
abbrev vN : Value := .none
def dE (w : World) (x : String) (t : Nat) (v : Value) : DictEntry := ⟨PyData.keyHash w.params (.ofString x), .str (.ofString x) t, v⟩
def oD (es : List DictEntry) (n : Nat) : Obj := ⟨.type "dict", none, .dict es.toArray n, #[]⟩
def oT (vs : List Value) : Obj := ⟨.type "tuple", none, .seq vs.toArray 0, #[]⟩
def oL (vs : List Value) (n : Nat) : Obj := ⟨.type "list", none, .seq vs.toArray n, #[]⟩
def oF (c : Value) (vs : List Value) : Obj := ⟨c, none, .fields vs.toArray, #[]⟩
def oP (c : Value) (sl : List (Option Value)) : Obj := ⟨c, none, .plain, sl.toArray⟩
def oC (c : Value) (d : Option Nat) (name : String) (bases mro : List Value) (ns : Nat) (qual : String) (sl : List (Option Value)) : Obj := ⟨c, d, .cls { name := .ofString name, bases := bases, mro := mro, ns := ns, qualname := .ofString qual }, sl.toArray⟩
def oU (c : Value) (name qual : String) (st : Stmt) (globals : Nat) (closure : List (PySem.Str × Nat)) (dfl kwd pm : Value) (ann : Option Nat) (code ct : Value) (bi : Nat) (sl : List (Option Value)) : Obj :=
  ⟨c, none, .func ⟨.ofString name, .ofString qual, L2.defArgs st, .stmts (L2.defBody st), L2.defScope st, globals, closure, dfl, kwd, .none, pm, ann, code, ct, bi⟩, sl.toArray⟩
/-- the tree of a list of objects -/
def trF : Nat → List Obj → BT
  | 0, _ => .nil
  | _ + 1, [] => .nil
  | n + 1, o :: r => .node o (trF n (alt true r)) (trF n (alt false r))
where alt : Bool → List Obj → List Obj
  | _, [] => []
  | true, x :: r => x :: alt false r
  | false, _ :: r => alt true r
end Mi
set_option maxHeartbeats 1000000
namespace Mi
open PySem PySem.Spec L2
open Evl (Ex)
/-! ### an f-string as a value -/
section
variable {K : PySem.W.Frag} {W : WX} {F H : Hp} {σ : L2.St} {env : En} {α β γ : Type} [ToD α] [ToD β] [ToD γ] {te to : TE}
def EvG (K : PySem.W.Frag) (W : WX) (env : En) (ts : List TE) (N : Nat) (m : Res Str) : Prop :=
  ∀ F0 H0 F H σ acc (Q : Str → Hp → Prop), Sl K F0 H0 F H σ env → acc.length + N ≤ sizeLine → KE K W F H σ (fun v H' => ∀ out, v = V.str out → Q (acc ++ out) H') m → tJs ts acc σ H Q
end
/-! ### a call without arguments -/
section
variable {X : Cx} {CX : CXT} {k : Nat} {f : Addr} {fd : FuncData} {ps : List Str} {sp : Sp} {E : L2.St → XK} {x : Str} {p pos : Pos}
end
/-! ### is, is not of a bool or None and a bool -/
def rIsOB : R2 := fun x y H Q => ∃ b : Bool, y = .bl b ∧ ((x = .non ∧ Q (.bl false) H) ∨ ∃ a : Bool, x = .bl a ∧ Q (.bl (decide (a = b))) H)
def rNotOB : R2 := fun x y H Q => ∃ b : Bool, y = .bl b ∧ ((x = .non ∧ Q (.bl true) H) ∨ ∃ a : Bool, x = .bl a ∧ Q (.bl (!decide (a = b))) H)
section
variable {X : Cx}
end
/-! ### two fors in a comprehension, the second with an if -/
def compL2T {α β γ : Type} (it : α → Res (List β)) (tst : α → β → Res Bool) (el : α → β → Res γ) : List α → Res (List γ)
  | [] => .ok []
  | x :: xs => (it x).bind fun ys => (compL (tst x) (el x) ys).bind fun zs => (compL2T it tst el xs).bind fun r => .ok (zs ++ r)
section
variable {K : PySem.W.Frag} {W : WX} {env : En} {te : TE} {tt : TT} {α β γ : Type} [ToD α] [ToD β] [ToD γ]
end
end Mi
set_option maxHeartbeats 1000000
namespace Mi
open PySem PySem.Spec L2
open Evl (Ex)
/-! ### objects that methods change -/
/-- what a method of such an object gives: a value, and the object as it then is -/
structure MoR (α S : Type) where
  x : α
  s : S
/-- the same, with the object's place -/
def Mo (p : Addr) (α S : Type) := MoR α S
/-- an object at its place, not frozen -/
def At (K : PySem.W.Frag) (F H : Hp) (p : Addr) : D → Prop
  | .obj c ks ds => ∃ dx vs, F p = none ∧ H p = some (.ins (He.ga K c) dx (ks.zip vs)) ∧ ks.length = vs.length ∧ Reps K F ds vs
  | _ => False
instance {p : Addr} {α S : Type} [ToD α] : ToD (Mo p α S) := ⟨fun z => ToD.d (MoR.x z)⟩
instance {p : Addr} {α S : Type} [ToD S] : ToR (Mo p α S) := ⟨fun K z v H0 F H => At K F H p (toD (MoR.s z))⟩
def Res.bind2 {α S β : Type} (m : Res (MoR α S)) (g : α → S → Res β) : Res β := m.bind fun z => g z.x z.s
section
variable {K : PySem.W.Frag} {F0 H0 F H F' H' : Hp} {σ : L2.St} {env : En}
theorem At.adv {p : Addr} {d : D} (a : Adv F H F' H') (h : At K F H p d) : At K F' H' p d := by
  cases d <;> try exact h
  obtain ⟨dx, vs, h1, h2, h3, h4⟩ := h
  exact ⟨dx, vs, a.out p h1 (by rw [h2]; simp), a.h _ _ h2, h3, Reps.mono a.f _ _ h4⟩
/-- the heap without an owned object -/
theorem SkOk.hide {sk : Sk} {v : V} {p : Addr} (hn : sk.own = true → v ≠ .ref p) (h : SkOk K H0 F H sk v) : SkOk K H0 F (hide H p) sk v := by
  cases sk with
  | im e => exact h
  | raw w => exact h
  | ow xs =>
    obtain ⟨q, vs, e1, e2, e3, e4, e5⟩ := h
    have hne : q ≠ p := fun z => hn rfl (by rw [e1, z])
    exact ⟨q, vs, e1, e2, e3, by rw [hide_ne hne]; exact e4, e5⟩
  | oi pp c ks ds =>
    obtain ⟨q, dx, vs, e1, e2, e3, e4, e5, e6, e7⟩ := h
    have hne : q ≠ p := fun z => hn rfl (by rw [e1, z])
    exact ⟨q, dx, vs, e1, e2, e3, by rw [hide_ne hne]; exact e4, e5, e6, e7⟩
theorem set_none_get {i j : Nat} {sk : Sk} (h : (env.set i none)[j]? = some (some sk)) : j ≠ i ∧ env[j]? = some (some sk) := by
  rcases set_get h with ⟨_, z⟩ | ⟨z, q⟩
  · cases z
  · exact ⟨fun w => z w.symm, q⟩
theorem Sl.hide (S : Sl K F0 H0 F H σ env) {i : Nat} {sk : Sk} {p : Addr} (hi : env[i]? = some (some sk)) (ho : sk.own = true) (hs : σ[i]? = some (some (.ref p))) (h0 : H0 p = none) (hf : F p = none) : Sl K F0 H0 F (Mi.hide H p) σ (env.set i none) := by
  refine ⟨⟨S.adv.f, fun a u q => ?_, fun a u q => ?_, S.adv.out⟩, fun j sk' q => ?_, fun j k sk1 sk2 p' hjk e1 e2 o1 o2 h1 => ?_, by rw [List.length_set]; exact S.len⟩
  · rw [hide_ne (ne_of_none q h0)]; exact S.adv.h a u q
  · rw [hide_ne (ne_of_none q hf)]; exact S.adv.in_ a u q
  · obtain ⟨z, q⟩ := set_none_get q
    obtain ⟨w, h1, h2⟩ := S.slot j sk' q
    exact ⟨w, h1, h2.hide fun o2 zz => S.dis j i _ _ p z q hi o2 ho (by rw [h1, zz]) hs⟩
  · exact S.dis j k sk1 sk2 p' hjk (set_none_get e1).2 (set_none_get e2).2 o1 o2 h1
end
/-! ### what follows a value whose expression changes an object -/
section
variable (K : PySem.W.Frag) (W : WX) (F0 H0 F : Hp) (σ : L2.St)
def KM {α S : Type} [ToD α] (env' : S → En) (envE : En) (Q : VK) : Res (MoR α S) → Prop
  | .ok z => ∀ v F' H', Ex F F' → Sl K F0 H0 F' H' σ (env' z.s) → Rep K F' (toD z.x) v → Q v H'
  | .exc c => ∀ F' H', Ex F F' → Sl K F0 H0 F' H' σ envE → W (.ref (He.ga K c)) none σ H'
  | .stuck => False
def KMA {β S : Type} [ToDs β] (env' : S → En) (envE : En) (Q : List V → Hp → Prop) : Res (MoR β S) → Prop
  | .ok z => ∀ vs F' H', Ex F F' → Sl K F0 H0 F' H' σ (env' z.s) → Reps K F' (ToDs.ds z.x) vs → Q vs H'
  | .exc c => ∀ F' H', Ex F F' → Sl K F0 H0 F' H' σ envE → W (.ref (He.ga K c)) none σ H'
  | .stuck => False
end
def EvM (K : PySem.W.Frag) (W : WX) (env : En) {S : Type} (env' : S → En) (envE : En) (te : TE) {α : Type} [ToD α] (m : Res (MoR α S)) : Prop :=
  ∀ F0 H0 F H σ Q, Sl K F0 H0 F H σ env → KM K W F0 H0 F σ env' envE Q m → te σ H Q
def EvMA (K : PySem.W.Frag) (W : WX) (env : En) {S : Type} (env' : S → En) (envE : En) (ta : TA) {β : Type} [ToDs β] (m : Res (MoR β S)) : Prop :=
  ∀ F0 H0 F H σ Q, Sl K F0 H0 F H σ env → KMA K W F0 H0 F σ env' envE Q m → ta σ H Q
/-- the promise of a method of such an object -/
def KO (K : PySem.W.Frag) (F H : Hp) (p : Addr) {α S : Type} [ToD α] [ToD S] (Q : VK) (E : XK) : Res (MoR α S) → Prop
  | .ok z => ∀ v F' H', Adv F (hide H p) F' H' → At K F' H' p (toD z.s) → Rep K F' (toD z.x) v → Q v H'
  | .exc c => ∀ F' H', Adv F (hide H p) F' H' → E (.ref (He.ga K c)) none H'
  | .stuck => False
def spO (K : PySem.W.Frag) {α S δ : Type} [ToD α] [ToD S] [ToDs δ] (f : S × δ → Res (MoR α S)) : Sp := fun vs H Q E => ∃ F s y p ws, vs = .ref p :: ws ∧ Ex F H ∧ At K F H p (toD s) ∧ Reps K F (ToDs.ds y) ws ∧ KO K F H p Q E (f (s, y))
section
variable {K : PySem.W.Frag} {W : WX} {env envE : En} {α β γ S : Type} [ToD α] [ToD β] [ToD γ] [ToD S] {env' : S → En} {te ta tb : TE} {r : R2}
end
/-! ### statements -/
section
variable {K : PySem.W.Frag} {W : WX} {F0 H0 F H : Hp} {rt : VK} {PT : En → Prop} {env envE : En} {α β S τ : Type} [ToD α] [ToD β] [ToD S] [ToD τ] [ToR τ] {KP : Res τ → Prop} {env' : S → En} {te : TE} {Z : Ends}
end
section
variable {K : PySem.W.Frag} {W : WX} {F0 H0 F H : Hp} {rt : VK} {PT : En → Prop} {env envE : En} {α S : Type} [ToD α] [ToD S] {p : Addr} {KP : Res (Mo p α S) → Prop} {env' : S → En} {te : TE} {Z : Ends}
end
section
variable {K : PySem.W.Frag} {W : WX} {F0 H0 F H : Hp} {rt : VK} {PT : En → Prop} {env : En} {S : Type} [ToD S] {p : Addr} {KP : Res (Mo p Unit S) → Prop} {Z : Ends}
end
/-! ### a method, an __init__ of such an object -/
section
variable {P : Program} {w : World} {K : PySem.W.Frag} {mg : Str → Option Value} {base : Heap} {x qual : Str} {params : Arguments} {body : List Stmt} {scope : Scope} {dvs : List V} {kws : List (Str × V)} {f : Addr} {fd : FuncData}
/-- the promise of an __init__ of such an object -/
def spJ (K : PySem.W.Frag) (c : Str) {S δ : Type} [ToD S] [ToDs δ] (f : δ → Res (MoR Unit S)) : Sp := fun vs H Q E => ∃ F y p dx ws, vs = .ref p :: ws ∧ Ex F H ∧ F p = none ∧ H p = some (.ins (He.ga K c) dx []) ∧ Reps K F (ToDs.ds y) ws ∧ KO K F H p Q E (f y)
end
/-! ### a new object that is changed later -/
def KOb (K : PySem.W.Frag) (W : WX) (F H : Hp) (σ : L2.St) {S : Type} [ToD S] (Q : VK) : Res S → Prop
  | .ok s => ∀ p F' H', Adv F H F' H' → H p = none → At K F' H' p (toD s) → Q (.ref p) H'
  | .exc c => ∀ F' H', Adv F H F' H' → W (.ref (He.ga K c)) none σ H'
  | .stuck => False
def EvO (K : PySem.W.Frag) (W : WX) (env : En) (te : TE) {S : Type} [ToD S] (m : Res S) : Prop :=
  ∀ F0 H0 F H σ Q, Sl K F0 H0 F H σ env → KOb K W F H σ Q m → te σ H Q
section
variable {K : PySem.W.Frag} {W : WX} {env : En} {S τ : Type} [ToD S] {te : TE}
/-- C(.., k = v, ..) -/
def tMakeNS (C : Addr) (n m : Nat) (sp : Sp) (gV : List V → List V → List V) (E : L2.St → XK) (t tk : TA) : TE := fun σ H Q => t σ H fun vs H1 => tk σ H1 fun zs H2 => vs.length = n ∧ zs.length = m ∧ ∀ x dx, H2 x = none → H2 dx = none → dx ≠ x →
  sp (gV (.ref x :: vs) zs) (upd (upd H2 dx (.own x)) x (.ins C dx [])) (fun v H3 => v = .non ∧ Q (.ref x) H3) (E σ)
end
section
variable {X : Cx} {CX : CXT} {k n : Nat} {f C : Addr} {fd : FuncData} {ps ks : List Str} {sp : Sp} {E : L2.St → XK} {x : Str} {p pos : Pos} {e : Expr} {es : List Expr} {kws : List Keyword} {t tk : TA} {g : List Value → List Value → List Value} {gV : List V → List V → List V}
end
section
variable {K : PySem.W.Frag} {W : WX} {F0 H0 : Hp} {rt : VK} {PT : En → Prop} {env : En} {S τ : Type} [ToD S] [ToD τ] [ToR τ] {KP : Res τ → Prop} {te : TE} {Z : Ends}
end
end Mi
set_option maxHeartbeats 1000000
namespace Mi
open PySem PySem.Spec L2
open PyProof.Rows
open Evl (Ex)
/-! ### a comprehension whose element raises -/
section
variable {X : Cx} {pins : List (Addr × Obj)} {σ : L2.St} {H3 : Hp} {s3 : Shared} {scope : Scope} {ce : Env} {fp : List Addr} {E : XK}
/-- what a block asks of a raise -/
abbrev blkX (X : Cx) (ce : Env) : Value → Shared → Prop := notedBy (model X.prog X.w) X.A ce (CompFails (model X.prog X.w) X.A X.xe ce)
theorem blk_pass (hs : X.stack = X.env :: X.outer) (hf : X.env.frame = some X.env.locals) (tk : L2.Takes X (W0 E)) (hcf : ce.frame = X.env.frame) (I3 : Inv X pins σ H3 s3) (hC : s3.heap.objs.size ≤ ce.locals)
    (hfp : ∀ b ∈ fp, (b ∈ X.ex ∨ X.s_0.heap.objs.size ≤ b) ∧ b ≠ X.env.locals ∧ (∀ x c, X.env.cells.lookup x = some c → c ≠ b) ∧ ∀ p ∈ X.pn ++ pins, p.1 ≠ b) (σb : L2.St) :
    PassesAt (L2.CX X.prog X.w) ((X.blk s3 H3 scope ce fp).wish (blkX X ce)) σb E := by
  intro ps H s e s' Ib c
  obtain ⟨a, B0, Hc, cl0, d0, rfl, fl0, _⟩ := id c
  have x := L2.XE.of_call (W := fun cls d _ H' => E cls d H') Ib (fun _ _ _ h => h) c
  obtain ⟨a2, B, sI, pinsb, σb', H', cls, d, ea, Ib', nb, up, sky, na, os, ag, w⟩ := x
  cases ea
  have fl : HandSPX.FlyingZ B X.stack a (Zc cls d) s'.heap := by
    obtain ⟨_, _, _, oe, vs, T, oT, ts, he, _, hd, h1, _, _, hT, hdT, h3⟩ := fl0
    rcases sky with ⟨_, _, _, oe', vs', he', _, hd', h1'⟩ | f | ⟨_, _, _, oe', vs', T', oT', ts', he', _, hd', h1', _, _, hT', hdT', h3'⟩
    · rw [he] at he'; cases he'
      rw [hd] at hd'; cases hd'
      rw [h1] at h1'; cases h1'
    · exact f
    · rw [he] at he'; cases he'
      rw [hd] at hd'; cases hd'
      rw [h1] at h1'; cases h1'
      rw [hT] at hT'; cases hT'
      rw [hdT] at hdT'; cases hdT'
      rw [h3] at h3'; cases h3'
  have hfr : X.A.frames = some (X.env :: X.outer) := by rw [I3.ok.frames, hs]
  rw [hs] at fl
  -- the block's dict
  obtain ⟨mC, hnC, _⟩ := Ib'.loc
  have hnC : sI.heap.Ns ce.locals mC := hnC
  have freeC : H' ce.locals = none := Ib'.free
  have Cfr : ce.locals ∉ frs X.stack := fun z => by
    have z := I3.stkSub _ z
    have q := (I3.fpOk (H' := H') hC freeC)
    rcases List.mem_cons.mp z with z | z
    · exact q.2.1 z
    · exact q.2.2.1 z
  show wpAny (model X.prog X.w) X.A (noteFrame (.ref a) ce) (fun _ s'' => CompFails (model X.prog X.w) X.A X.xe ce (.ref a) s'') _ s'
  rw [noteFrame_env _ hcf]
  refine HandSPX.looks_onZ Zc.steady hfr hf fl fun h1 held1 up1 => ?_
  have hn1 : h1.Ns ce.locals mC := (hnC.upToSlots up).upToSlots up1
  refine ⟨mC, hn1, fun h2 m2 hn2 sb => ?_⟩
  obtain ⟨b1, b0, f1, oe, vs, T, oT, ts, he, hz, hd, hv1, hnT, hTe, hT, hdT, h3v⟩ := held1
  obtain ⟨o1, es1, ep1, ho1, hd1, _⟩ := hn1
  obtain ⟨oC, esC, epC, hoC, hdC, _⟩ := id hn2
  obtain ⟨oI, esI, epI, hoI, hdI, _⟩ := hnC
  have aC : a ≠ ce.locals := fun z => by
    rw [z, ho1] at he; cases he
    rw [hd1] at hd; cases hd
  have TC : T ≠ ce.locals := fun z => by
    rw [z, ho1] at hT; cases hT
    rw [hd1] at hdT; cases hdT
  have BC : B.get? ce.locals = some oI := nb _ _ hoI Cfr
  have nfr : oC.isFreed = false := (Heap.get?_some_iff.mp hoC).2
  have B1 : (B.update ce.locals fun _ => oC).get? ce.locals = some oC := Heap.get?_update_self (fun _ => oC) BC nfr
  have B2 : ∀ b, b ≠ ce.locals → (B.update ce.locals fun _ => oC).get? b = B.get? b := fun b hb => Heap.get?_update_other _ _ (Ne.symm hb)
  have G1 : (sI.heap.update ce.locals fun _ => oC).get? ce.locals = some oC := Heap.get?_update_self (fun _ => oC) hoI nfr
  have G2 : ∀ b, b ≠ ce.locals → (sI.heap.update ce.locals fun _ => oC).get? b = sI.heap.get? b := fun b hb => Heap.get?_update_other _ _ (Ne.symm hb)
  have he2 : h2.get? a = some oe := (sb.2 a aC).trans he
  have hT2 : h2.get? T = some oT := (sb.2 T TC).trans hT
  have fr2 : h2.FunFrames (B.update ce.locals fun _ => oC) (X.env :: X.outer) := funFrames_none (Heap.FunFrames.sameBut sb hn2 f1) fun L hL => by
    rw [← hs] at hL
    rw [B2 L fun z => Cfr (z ▸ hL)]
    rw [hs] at hL
    exact (f1.mem hL).1
  have held2 : HandSPX.HeldZ (B.update ce.locals fun _ => oC) (X.env :: X.outer) a (Zc cls d) X.env.locals h2 := by
    refine ⟨fun b o hb => ?_, (B2 a aC).trans b0, fr2, oe, vs, T, oT, ts, he2, hz, hd, hv1, (B2 T TC).trans hnT, hTe, hT2, hdT, h3v⟩
    by_cases z : b = ce.locals
    · rw [z] at hb ⊢
      rw [B1] at hb; cases hb
      exact hoC
    · rw [B2 b z] at hb
      exact (sb.2 b z).trans (b1 b o hb)
  unfold PySem.passOn
  refine wpAny_bind (wpAny_field he2 hd hv1 ?_)
  rw [if_neg (show ¬ ((Value.ref T == Value.none) = true) by simp), hcf, hf]
  refine wpAny_bind (HandSPX.setFlight_onZ held2 fun h3 held3 up3 => ?_)
  refine wpAny_throw ?_
  have I7 : Inv X pins σ H' sI := I3.call' (ch := fp) Ib'.os Ib'.base Ib'.hok Ib'.bare hfp
  obtain ⟨g0, g1, g2, g3, g4, g5⟩ := I3.fpOk (H' := H') hC freeC
  have I8 := I7.turned (t' := sI.toks) (h' := sI.heap.update ce.locals fun _ => oC) (it := ce.locals) (fun b o hb e => (G2 b hb).trans e) g0 g1 g3 g4 g5
  have Ios : sI.os = X.s_0.os := I7.os
  refine tk _ _ ⟨a, B.update ce.locals fun _ => oC, _, pins, σ, H', cls, d, rfl, I8, fun b o hb hF => ?_, fun b o hb hnf => ?_, .inr (.inr ?_), na, ?_, ag, w⟩
  · by_cases z : b = ce.locals
    · rw [z] at hb ⊢
      exact B1.trans (G1.symm.trans hb)
    · rw [B2 b z]
      exact nb b o ((G2 b z).symm.trans hb) hF
  · by_cases z : b = ce.locals
    · rw [z] at hb ⊢
      have hb : some oC = some o := G1.symm.trans hb
      cases hb
      exact up3 _ _ hoC hnf
    · have hb : sI.heap.get? b = some o := (G2 b z).symm.trans hb
      obtain ⟨l1, q1⟩ := up b o hb hnf
      obtain ⟨l2, q2⟩ := up1 b _ q1 hnf
      obtain ⟨l3, q3⟩ := up3 b _ ((sb.2 b z).trans q2) hnf
      exact ⟨l3, q3⟩
  · rw [hs]; exact held3
  · exact os
theorem pe_lcE {X : Cx} {E : XK} {elt tg iter : Expr} {ifs : List Expr} {scope : Scope} {own : List (Str × Nat)} {pos : Pos} {wi : TI} {g : TG} {tt : TT} {te : TE}
    (hs : X.stack = X.env :: X.outer) (hf : X.env.frame = some X.env.locals) (tk : L2.Takes X (W0 E)) (hc : X.calm = true) (hN : X.N.Nodup)
    (hi : PI X tg iter wi) (ok : BlkOk X.N X.env.scope scope own)
    (hg : ∀ (s : Shared) (H : Hp) (C : Addr) (cl : List (Str × Addr)) (fp : List Addr), PG (X.blk s H scope (compEnvC scope cl C X.env) fp) tg g)
    (ht : ∀ (s : Shared) (H : Hp) (C : Addr) (cl : List (Str × Addr)) (fp : List Addr), PTs (X.blk s H scope (compEnvC scope cl C X.env) fp) ifs tt)
    (he : ∀ (s : Shared) (H : Hp) (C : Addr) (cl : List (Str × Addr)) (fp : List Addr),
      (∀ τ, PassesAt (L2.CX X.prog X.w) ((X.blk s H scope (compEnvC scope cl C X.env) fp).wish (blkX X (compEnvC scope cl C X.env))) τ E) →
      PE ((X.blk s H scope (compEnvC scope cl C X.env) fp).wish (blkX X (compEnvC scope cl C X.env))) elt te)
    (hfs : ∀ x, foldedSetIterable iter X.env x = pure x := by intro _; rfl) :
    PE X (.ListComp elt [⟨tg, iter, ifs, 0⟩] scope pos) (tLc wi g tt te (own.map (·.2))) := by
  refine ⟨fun pins s σ H Q I h => ?_⟩
  rw [eval_ListComp]
  have hcell : ∀ y ∈ scope.names, y.2 = .free → ∃ c, X.env.cells.lookup y.1 = some c := by
    intro y hy e
    exact (ok.free y hy e).elim (fun k => I.ok.has _ (.inl k)) (fun k => I.ok.has _ (.inr k))
  refine comprehension_at (use := none) rfl hfs (closure_ok hcell) ok.kind (fun y hy e => (ok.uniq y hy).trans (congrArg some e)) ?_
  refine thn (hi.run pins s σ H _ I h) fun _ _ hx => thn hx fun _ sA hA => ?_
  obtain ⟨it, fp, tn, J, HA, rfl, IA, TA, stA, fpA, qA⟩ := hA
  refine wpAny_newObj_type (newEnv_comp ?_) (Nat.zero_le _)
  obtain ⟨D, hD⟩ : ∃ D, D = sA.heap.objs.size := ⟨_, rfl⟩
  have dn : HA D = none := IA.hok.fresh (Nat.le_of_eq hD.symm)
  obtain ⟨WI, ⟨mI, wI⟩, turn⟩ := qA D dn
  obtain ⟨sB, hsB⟩ : ∃ sB : Shared, sB = { sA with heap := sA.heap.push { cls := .type "list", data := .seq ([] : List Value).toArray } } := ⟨_, rfl⟩
  have hB : sB.heap = sA.heap.push { cls := .type "list", data := .seq ([] : List Value).toArray } := by rw [hsB]
  have zB : sB.heap.objs.size = sA.heap.objs.size + 1 := by rw [hB, Heap.size_push]
  obtain ⟨HB, hHB⟩ : ∃ HB, HB = upd HA D (.lst []) := ⟨_, rfl⟩
  have IB : Inv X pins σ HB sB := by
    rw [hsB, hHB]
    exact IA.laid (t' := sA.toks) (fun b o e => Heap.get?_push_of_some _ e) (Nat.le_of_eq hD.symm) ⟨Nat.zero_le _, [], 0, .nil, by rw [hD]; exact Heap.get?_push_size _ rfl⟩
  have below : ∀ b ∈ fp, b < sA.heap.objs.size := fun b hb => (TA.obj _ _ stA b hb).elim fun o e => Heap.lt_size e.1
  have fpB : ∀ b ∈ fp, FpOk X pins HB b ∧ b < sB.heap.objs.size := fun b hb => by
    have lt := below b hb
    refine ⟨⟨?_, (fpA b hb).2⟩, zB ▸ Nat.lt_succ_of_lt lt⟩
    rw [hHB, upd_ne (by rw [hD]; exact Nat.ne_of_lt lt)]
    exact (fpA b hb).1
  have stB : tn 0 sB.heap := TA.keep _ _ _ stA fun b _ o e => by rw [hB]; exact Heap.get?_push_of_some _ e
  have IC := block_start IB ok hN fpB
  obtain ⟨ce, hce⟩ : ∃ ce, ce = compEnvC scope (cellsFrom (sB.heap.objs.size + 1) scope.names (cloFrom X.env.cells scope.names [])) sB.heap.objs.size X.env := ⟨_, rfl⟩
  have cL : ce.locals = sB.heap.objs.size := by rw [hce]; rfl
  have cF : ce.frame = X.env.frame := by rw [hce]; rfl
  have chB : ∀ b ∈ fp, (b ∈ X.ex ∨ X.s_0.heap.objs.size ≤ b) ∧ b ≠ X.env.locals ∧ (∀ x c, X.env.cells.lookup x = some c → c ≠ b) ∧ ∀ p ∈ X.pn ++ pins, p.1 ≠ b :=
    fun b hb => ⟨(fpB b hb).1.2.2.2.1, (fpB b hb).1.2.1, (fpB b hb).1.2.2.2.2.1, (fpB b hb).1.2.2.2.2.2⟩
  have pass : ∀ τ, PassesAt (L2.CX X.prog X.w) ((X.blk sB HB scope ce fp).wish (blkX X ce)) τ E := fun τ => blk_pass hs hf tk cF IB (Nat.le_of_eq cL.symm) chB τ
  have pgB := hg sB HB sB.heap.objs.size (cellsFrom (sB.heap.objs.size + 1) scope.names (cloFrom X.env.cells scope.names [])) fp
  have ptB := ht sB HB sB.heap.objs.size (cellsFrom (sB.heap.objs.size + 1) scope.names (cloFrom X.env.cells scope.names [])) fp
  have peB := he sB HB sB.heap.objs.size (cellsFrom (sB.heap.objs.size + 1) scope.names (cloFrom X.env.cells scope.names [])) fp
  rw [← hce] at IC pgB ptB peB
  have peB := peB pass
  have main : codeAny (model X.prog X.w) X.A (.compStart (.ListComp elt [⟨tg, iter, ifs, 0⟩] scope pos) 0 (.ref it) (.ref D) ce) (compEnds (model X.prog X.w) X.A X.xe none (EP X pins σ Q) (.ref D) ce)
      { sB with heap := pushCells (sB.heap.push { cls := .type "dict", data := .dict #[] }) scope.names } := by
    obtain ⟨sC, hsC⟩ : ∃ sC : Shared, sC = { sB with heap := pushCells (sB.heap.push { cls := .type "dict", data := .dict #[] }) scope.names } := ⟨_, rfl⟩
    rw [← hsC] at IC ⊢
    have stC : tn 0 sC.heap := TA.keep _ _ _ stB fun b _ o e => by rw [hsC]; exact pushCells_keeps _ _ _ _ (Heap.get?_push_of_some _ e)
    have still : ∀ {τ : L2.St} {G : Hp} {t : Shared}, Inv (X.blk sB HB scope ce fp) [] τ G t → (∀ b ∈ fp, G b = none) → ∀ b ∈ fp, FpOk (X.blk sB HB scope ce fp) [] G b := by
      intro τ G t J0 z b hb
      have ex := J0.ok.exf b hb
      exact ⟨z b hb, ex.1, J0.ok.exfs b hb, .inl hb, fun x c e => ex.2 x c e, fun p hp => nomatch (show p ∈ ([] : List (Addr × Obj)) from hp)⟩
    have loop : codeAny (model X.prog X.w) X.A (.compLoop (.ListComp elt [⟨tg, iter, ifs, 0⟩] scope pos) 0 (.ref it) (.ref D) ce) (compEnds (model X.prog X.w) X.A X.xe none (EP X pins σ Q) (.ref D) ce) sC := by
      refine compLoop_any (fun k t => ∃ i G, Inv (X.blk sB HB scope ce fp) [] (L2.wipe σ (own.map (·.2))) G t ∧ tn i t.heap ∧ (∀ b ∈ fp, G b = none) ∧ WI i k G) ?_ mI ⟨0, HB, IC, stC, fun b hb => (fpB b hb).1.1, hHB ▸ wI⟩
      rintro k sD ⟨i, GD, ID, stD, nD, wD⟩
      rcases turn i k GD wD with ⟨stop, qq⟩ | ⟨go, Nx, hNx, step⟩
      · refine thnF (TA.done (X.blk sB HB scope ce fp) rfl rfl rfl hc i [] sD _ GD (fun _ _ => False) ID (still ID nD) stD stop) fun r t hr => ?_
        obtain ⟨rfl, It⟩ := hr
        have IX : Inv X pins σ GD t := IB.call' (ch := fp) It.os It.base It.hok It.bare chB
        obtain ⟨m, hn, _⟩ := It.loc
        obtain ⟨f0, f1, _, f3, f4, f5⟩ := IB.fpOk (H' := GD) (b := ce.locals) (Nat.le_of_eq cL.symm) It.free
        exact ⟨m, hn, fun h'' sb => ⟨.ref D, GD, IX.turned (t' := t.toks) (fun b o hb e => (sb.2 b hb).trans e) f0 f1 f3 f4 f5, rfl, qq⟩⟩
      · refine thnF (TA.item (X.blk sB HB scope ce fp) rfl rfl rfl hc i [] sD _ GD (fun _ _ => False) ID (still ID nD) stD go) fun r t hr => ?_
        obtain ⟨u, rfl, ht0⟩ := hr
        refine thnF ht0 fun _ t1 hx1 => ?_
        obtain ⟨x, G1, J1, r1, y1, st1, n1⟩ := hx1
        refine thnF (pgB.run _ t1 _ G1 x u _ (J1.pinned (still J1 n1) (TA.obj _ _ st1)) r1 (step x G1 y1)) fun _ t2 hx2 => ?_
        obtain ⟨τ, G2, J2, hw, q2⟩ := hx2
        refine thnF (ptB.run _ t2 τ G2 _ J2 q2) fun b t3 hx3 => ?_
        obtain ⟨G3, J3, q3⟩ := hx3
        have fin : ∀ {t4 : Shared} {G4 : Hp}, Inv (X.blk sB HB scope ce fp) ([] ++ pinsAt fp t1.heap) τ G4 t4 → Nx G4 → ∃ m, m < k ∧ ∃ i G, Inv (X.blk sB HB scope ce fp) [] (L2.wipe σ (own.map (·.2))) G t4 ∧ tn i t4.heap ∧ (∀ b ∈ fp, G b = none) ∧ WI i m G := by
          intro t4 G4 J4 nx
          obtain ⟨m, lt, w4⟩ := hNx G4 nx
          have pin4 : ∀ b ∈ fp, ∀ o, t1.heap.get? b = some o → t4.heap.get? b = some o ∧ G4 b = none := by
            intro b hb o e
            have z := J4.pin (b, o) (List.mem_append_right _ (List.mem_append_right _ (mem_pinsAt hb e)))
            exact ⟨z.1, z.2.1⟩
          refine ⟨m, lt, i + 1, G4, (J4.unpinned (pins := [])).weak (by rw [← hw, wipe_length]) (fun j v e => ?_), TA.keep _ _ _ st1 (fun b hb o e => (pin4 b hb o e).1), (fun b hb => ?_), w4⟩
          · rw [← hw] at e
            exact (wipe_some e).1
          · obtain ⟨o, e, _⟩ := TA.obj _ _ st1 b hb
            exact (pin4 b hb o e).2
        cases b with
        | false => exact fin J3 q3
        | true =>
          refine wpAny_mono (peB.run _ t3 τ G3 _ (J3.wish _) q3) (fun v t4 hx4 => ?_) fun _ _ z => z
          obtain ⟨yv, G4, J4, r4, acc, hD4, hz4, nx⟩ := hx4
          exact app_ok (X := X.blk sB HB scope ce fp) J4.unwish hD4 hz4 r4 fun t5 J5 => fin J5 nx
    exact codeAny_compStart_list loop (TA.self X.A 0 _ _ _ stC loop)
  subst hce hsB hD
  exact main
end
section
variable {K : PySem.W.Frag} {F0 H0 F H F' H' F1 : Hp} {env env' : En} {α β : Type} [ToD α] [ToD β] {te : TE} {tt : TT} {σ : L2.St}
theorem ev_compE {E : XK} {wi : TI} {g : TG} {m : Res (List α)} {fe : α → En → En} {ws : List Nat} {tst : α → Res Bool} {el : α → Res β} (hi : EvI K (W0 E) env wi m) (hg : ∀ x, GX K g (toD x) (fe x) ws)
    (ht : ∀ x, EvT K WT (fe x (unset ws env)) tt (tst x)) (he : ∀ x, EvX K (W0 E) (fe x (unset ws env)) te (el x)) :
    EvN K (W0 E) env (tLc wi g tt te ws) (m.bind fun xs => .need (xs.length ≤ 16777216) (compL tst el xs)) := fun F0 H0 F H σ Q S k => by
  refine hi F0 H0 F H σ _ S ?_
  cases m with
  | exc c => exact k
  | stuck => exact k.elim
  | ok xs =>
  intro J F1 H1 a1 js D hD
  have k : KN K (W0 E) F H σ Q (.need (xs.length ≤ 16777216) (compL tst el xs)) := k
  by_cases c : xs.length ≤ 16777216
  case neg => rw [Res.need_neg c] at k; exact k.elim
  rw [Res.need_pos c] at k
  have hn : (xs.map toD).length = xs.length := List.length_map ..
  have hDF : F1 D = none := none_of_ex a1.in_ hD
  have hDH : H D = none := Evl.fresh_back a1.h hD
  have hD0 : H0 D = none := Evl.fresh_back S.adv.h hDH
  -- the new list is none of the slots'
  have hne : ∀ (i : Nat) (sk : Sk), env[i]? = some (some sk) → sk.own = true → σ[i]? ≠ some (some (V.ref D)) := fun i sk e ho z => by
    obtain ⟨v, e1, q⟩ := S.slot i _ e
    obtain ⟨p, o, rfl, _, _, q⟩ := q.at ho
    rw [e1] at z; cases z
    rw [hDH] at q; cases q
  have S1 : Sl K F0 H0 F1 (upd H1 D (.lst [])) σ env := (S.step a1).updN hDF hD0 hne
  refine ⟨fun i n H' => n = xs.length - i ∧ i ≤ xs.length ∧ ∃ F' acc vs, Sl K F0 H0 F' H' σ env ∧ Adv F H F' H' ∧ Ex F1 F' ∧ F' D = none ∧ H' D = some (.lst vs) ∧ Reps K F' (acc.map toD) vs ∧ acc.length ≤ i ∧
    (∀ ys, compL tst el (xs.drop i) = .ok ys → compL tst el xs = .ok (acc ++ ys)) ∧ (∀ c, compL tst el (xs.drop i) = .exc c → compL tst el xs = .exc c) ∧ (compL tst el (xs.drop i) = .stuck → compL tst el xs = .stuck),
    ⟨xs.length, rfl, Nat.zero_le _, F1, ([] : List β), [], S1, a1.trans (Adv.newO a1.in_ hD), Ex.refl _, hDF, upd_same, (show Reps K F1 [] [] from rfl), Nat.le_refl _, fun ys h => h, fun c h => h, fun h => h⟩, ?_⟩
  rintro i n H2 ⟨rfl, hle, F2, acc, vs, S2, a2, x2, f2, h2, r2, l2, q1, q2, q3⟩
  by_cases hlt : i < xs.length
  · refine .inr ⟨js.go i H2 (x2.trans a2.in_) (by rw [hn]; exact hlt), fun H' => (i + 1 ≤ xs.length ∧ ∃ F' acc vs, Sl K F0 H0 F' H' σ env ∧ Adv F H F' H' ∧ Ex F1 F' ∧ F' D = none ∧ H' D = some (.lst vs) ∧ Reps K F' (acc.map toD) vs ∧ acc.length ≤ i + 1 ∧
      (∀ ys, compL tst el (xs.drop (i + 1)) = .ok ys → compL tst el xs = .ok (acc ++ ys)) ∧ (∀ c, compL tst el (xs.drop (i + 1)) = .exc c → compL tst el xs = .exc c) ∧ (compL tst el (xs.drop (i + 1)) = .stuck → compL tst el xs = .stuck)),
      fun H' w => ⟨_, by omega, rfl, w⟩, fun v H3 hy => ?_⟩
    obtain ⟨F3, x, a3, ex, rx⟩ := js.yld i H2 v H3 F2 x2 a2.in_ (by rw [hn]; exact hlt) hy
    rw [List.getElem?_map, List.getElem?_eq_getElem hlt] at ex
    cases ex
    have e : xs.drop i = xs[i] :: xs.drop (i + 1) := List.drop_eq_getElem_cons hlt
    rw [e] at q1 q2 q3
    have S3 := S2.step a3
    refine hg xs[i] F0 H0 F3 H3 _ _ v _ (S3.wipe ws) rx fun σ' S' sl so => ⟨wipe_eq sl so, ?_⟩
    have f3 : F3 D = none := a3.out D f2 (by rw [h2]; simp)
    refine ht xs[i] F0 H0 F3 H3 σ' _ S' ?_
    cases qt : tst xs[i] with
    | exc c => exact fun _ _ _ => trivial
    | stuck =>
      have := q3 (by show (tst xs[i]).bind _ = _; rw [qt]; rfl)
      rw [this] at k; exact k.elim
    | ok b =>
    intro F4 H4 a4
    have f4 : F4 D = none := a4.out D f3 (by rw [a3.h _ _ h2]; simp)
    cases b with
    | false =>
      show i + 1 ≤ xs.length ∧ _
      refine ⟨hlt, F4, acc, vs, S3.step a4, (a2.trans a3).trans a4, (x2.trans a3.f).trans a4.f, f4, a4.h _ _ (a3.h _ _ h2), Reps.mono (a3.trans a4).f _ _ r2, by omega, fun ys h => ?_, fun c h => ?_, fun h => ?_⟩
      · exact q1 ys (by show (tst xs[i]).bind _ = _; rw [qt]; exact h)
      · exact q2 c (by show (tst xs[i]).bind _ = _; rw [qt]; exact h)
      · exact q3 (by show (tst xs[i]).bind _ = _; rw [qt]; exact h)
    | true =>
      show te σ' H4 _
      refine he xs[i] F0 H0 F4 H4 σ' _ (S'.step a4) ?_
      cases qe : el xs[i] with
      | exc c =>
        have := q2 c (by show (tst xs[i]).bind _ = _; rw [qt]; show (el xs[i]).bind _ = _; rw [qe]; rfl)
        rw [this] at k
        exact fun F' H' b => k F' H' (((a2.trans a3).trans a4).trans b)
      | stuck =>
        have := q3 (by show (tst xs[i]).bind _ = _; rw [qt]; show (el xs[i]).bind _ = _; rw [qe]; rfl)
        rw [this] at k; exact k.elim
      | ok y =>
      intro w F5 H5 a5 r5
      have f5 : F5 D = none := a5.out D f4 (by rw [a4.h _ _ (a3.h _ _ h2)]; simp)
      have h5 : H5 D = some (.lst vs) := a5.h _ _ (a4.h _ _ (a3.h _ _ h2))
      have ad := ((a2.trans a3).trans a4).trans a5
      refine ⟨vs, h5, by rw [sizeLine_eq, ← r2.length, List.length_map]; omega, hlt, F5, acc ++ [y], vs ++ [w], ((S3.step a4).step a5).updN f5 hD0 hne, ⟨ad.f, fun a u q => ?_, fun a u q => ?_, ad.out⟩,
        ((x2.trans a3.f).trans a4.f).trans a5.f, f5, upd_same, ?_, by rw [List.length_append]; simp; omega, fun ys h => ?_, fun c h => ?_, fun h => ?_⟩
      · rw [upd_ne (ne_of_none q hDH)]; exact ad.h a u q
      · rw [upd_ne (ne_of_none q f5)]; exact ad.in_ a u q
      · rw [List.map_append]
        exact Reps.append (Reps.mono ((a3.trans a4).trans a5).f _ _ r2) (Reps.one r5)
      · rw [q1 (y :: ys) (by show (tst xs[i]).bind _ = _; rw [qt]; show (el xs[i]).bind _ = _; rw [qe]; show (compL tst el _).bind _ = _; rw [h]; rfl)]
        rw [List.append_assoc]; rfl
      · exact q2 c (by show (tst xs[i]).bind _ = _; rw [qt]; show (el xs[i]).bind _ = _; rw [qe]; show (compL tst el _).bind _ = _; rw [h]; rfl)
      · exact q3 (by show (tst xs[i]).bind _ = _; rw [qt]; show (el xs[i]).bind _ = _; rw [qe]; show (compL tst el _).bind _ = _; rw [h]; rfl)
  · have e : xs.drop i = [] := List.drop_of_length_le (by omega)
    rw [e] at q1
    have := q1 [] rfl
    rw [List.append_nil] at this
    rw [this] at k
    exact .inl ⟨js.stop i H2 (x2.trans a2.in_) (by rw [hn]; omega), k D vs F2 H2 a2 hDH f2 h2 r2⟩
end
/-! ### a name that a loop sets, and that is read behind it -/
abbrev lateM {α : Type} [ToD α] (o : Option α) : Option Sk := o.bind iM
theorem blk_stk {K : PySem.W.Frag} {W : WX} {F0 H0 : Hp} {rt : VK} {PT : En → Prop} {env : En} {τ : Type} [ToD τ] [ToR τ] {KP : Res τ → Prop} {T : L2.St → Hp → Prop} (L : Lk K W F0 H0 rt PT KP) : Blk K F0 H0 KP T env .stuck := fun _ _ _ _ h => (L.no h).elim
end Mi
set_option maxHeartbeats 4000000
namespace Mi
open PySem PySem.Spec L2
def topS (i : Nat) : Stmt := PySem.Challenge.pw_curveseal_k30_lengths_and_numbers.main.body.getD i (.Pass ⟨0, 0, 0, 0⟩)

abbrev s_is_whole : Stmt := topS 5
theorem sc_is_whole : FnScope ["value"] ["value"] (defScope s_is_whole) := ⟨rfl, rfl, rfl, by decide +kernel, rfl, by decide +kernel, by decide +kernel⟩
abbrev s_to_little : Stmt := topS 6
theorem sc_to_little : FnScope ["number", "size", "at"] ["number", "size"] (defScope s_to_little) := ⟨rfl, rfl, rfl, by decide +kernel, rfl, by decide +kernel, by decide +kernel⟩
abbrev s_to_big : Stmt := topS 7
theorem sc_to_big : FnScope ["number", "size"] ["number", "size"] (defScope s_to_big) := ⟨rfl, rfl, rfl, by decide +kernel, rfl, by decide +kernel, by decide +kernel⟩
abbrev s_from_big : Stmt := topS 8
theorem sc_from_big : FnScope ["data", "number", "byte"] ["data"] (defScope s_from_big) := ⟨rfl, rfl, rfl, by decide +kernel, rfl, by decide +kernel, by decide +kernel⟩
abbrev s_is_bytes : Stmt := topS 9
theorem sc_is_bytes : FnScope ["value", "item"] ["value"] (defScope s_is_bytes) := ⟨rfl, rfl, rfl, by decide +kernel, rfl, by decide +kernel, by decide +kernel⟩
abbrev s_write_length : Stmt := topS 18
theorem sc_write_length : FnScope ["size"] ["size"] (defScope s_write_length) := ⟨rfl, rfl, rfl, by decide +kernel, rfl, by decide +kernel, by decide +kernel⟩
abbrev s_read_length : Stmt := topS 19
theorem sc_read_length : FnScope ["data", "at", "first", "behind", "size"] ["data", "at"] (defScope s_read_length) := ⟨rfl, rfl, rfl, by decide +kernel, rfl, by decide +kernel, by decide +kernel⟩
abbrev s_write_number : Stmt := topS 20
theorem sc_write_number : FnScope ["number"] ["number"] (defScope s_write_number) := ⟨rfl, rfl, rfl, by decide +kernel, rfl, by decide +kernel, by decide +kernel⟩
abbrev s_u_number_content : Stmt := topS 21
theorem sc_u_number_content : FnScope ["number"] ["number"] (defScope s_u_number_content) := ⟨rfl, rfl, rfl, by decide +kernel, rfl, by decide +kernel, by decide +kernel⟩
abbrev s_u_part : Stmt := topS 22
theorem sc_u_part : FnScope ["tag", "content"] ["tag", "content"] (defScope s_u_part) := ⟨rfl, rfl, rfl, by decide +kernel, rfl, by decide +kernel, by decide +kernel⟩
abbrev s_u_only_part : Stmt := topS 23
theorem sc_u_only_part : FnScope ["data", "parts"] ["data"] (defScope s_u_only_part) := ⟨rfl, rfl, rfl, by decide +kernel, rfl, by decide +kernel, by decide +kernel⟩
abbrev s_u_split_parts : Stmt := topS 24
theorem sc_u_split_parts : FnScope ["data", "parts", "at", "size", "start", "behind"] ["data"] (defScope s_u_split_parts) := ⟨rfl, rfl, rfl, by decide +kernel, rfl, by decide +kernel, by decide +kernel⟩
abbrev s_u_number : Stmt := topS 25
theorem sc_u_number : FnScope ["content", "number"] ["content"] (defScope s_u_number) := ⟨rfl, rfl, rfl, by decide +kernel, rfl, by decide +kernel, by decide +kernel⟩
abbrev s_u_part_count : Stmt := topS 26
theorem sc_u_part_count : FnScope ["value", "item"] ["value"] (defScope s_u_part_count) := ⟨rfl, rfl, rfl, by decide +kernel, rfl, by decide +kernel, by decide +kernel⟩
abbrev s_read_tree : Stmt := topS 27
theorem sc_read_tree : FnScope ["data", "tag", "content", "value"] ["data"] (defScope s_read_tree) := ⟨rfl, rfl, rfl, by decide +kernel, rfl, by decide +kernel, by decide +kernel⟩
abbrev s_u_tree_value : Stmt := topS 28
theorem sc_u_tree_value : FnScope ["tag", "content", "levels", "inner", "part"] ["tag", "content", "levels"] (defScope s_u_tree_value) := ⟨rfl, rfl, rfl, by decide +kernel, rfl, by decide +kernel, by decide +kernel⟩
abbrev s_u_law_cell : Stmt := topS 30
theorem sc_u_law_cell : FnScope ["script", "k"] ["script", "k"] (defScope s_u_law_cell) := ⟨rfl, rfl, rfl, by decide +kernel, rfl, by decide +kernel, by decide +kernel⟩
abbrev s_u_law_twice : Stmt := topS 31
theorem sc_u_law_twice : FnScope ["cell", "k", "x"] ["cell", "k"] (defScope s_u_law_twice) := ⟨rfl, rfl, rfl, by decide +kernel, rfl, by decide +kernel, by decide +kernel⟩
abbrev s_u_law_bytes : Stmt := topS 32
theorem sc_u_law_bytes : FnScope ["cell", "size", "left", "great", "data", "k"] ["cell", "size"] (defScope s_u_law_bytes) := ⟨rfl, rfl, rfl, by decide +kernel, rfl, by decide +kernel, by decide +kernel⟩
abbrev s_u_law_integer : Stmt := topS 33
theorem sc_u_law_integer : FnScope ["x"] ["x"] (defScope s_u_law_integer) := ⟨rfl, rfl, rfl, by decide +kernel, rfl, by decide +kernel, by decide +kernel⟩
abbrev s_u_law_is_list : Stmt := topS 34
theorem sc_u_law_is_list : FnScope ["found", "due", "one", "other"] ["found", "due"] (defScope s_u_law_is_list) := ⟨rfl, rfl, rfl, by decide +kernel, rfl, by decide +kernel, by decide +kernel⟩
abbrev s_u_law_length : Stmt := topS 35
theorem sc_u_law_length : FnScope ["size"] ["size"] (defScope s_u_law_length) := ⟨rfl, rfl, rfl, by decide +kernel, rfl, by decide +kernel, by decide +kernel⟩
abbrev s_u_law_form : Stmt := topS 36
theorem sc_u_law_form : FnScope ["number", "content", "left", "turn"] ["number"] (defScope s_u_law_form) := ⟨rfl, rfl, rfl, by decide +kernel, rfl, by decide +kernel, by decide +kernel⟩
abbrev s_u_law_call : Stmt := topS 37
theorem sc_u_law_call : FnScope ["which", "data", "at"] ["which", "data", "at"] (defScope s_u_law_call) := ⟨rfl, rfl, rfl, by decide +kernel, rfl, by decide +kernel, by decide +kernel⟩
abbrev s_u_law_told : Stmt := topS 38
theorem sc_u_law_told : FnScope ["which", "data", "at"] ["which", "data", "at"] (defScope s_u_law_told) := ⟨rfl, rfl, rfl, by decide +kernel, rfl, by decide +kernel, by decide +kernel⟩
abbrev s_u_law_size : Stmt := topS 39
theorem sc_u_law_size : FnScope ["cell"] ["cell"] (defScope s_u_law_size) := ⟨rfl, rfl, rfl, by decide +kernel, rfl, by decide +kernel, by decide +kernel⟩
abbrev s_u_law_due_length : Stmt := topS 40
theorem sc_u_law_due_length : FnScope ["data", "at", "end", "part", "size"] ["data", "at"] (defScope s_u_law_due_length) := ⟨rfl, rfl, rfl, by decide +kernel, rfl, by decide +kernel, by decide +kernel⟩
abbrev s_u_law_lengths : Stmt := topS 41
theorem sc_u_law_lengths : FnScope ["cell", "other", "size", "before", "data"] ["cell", "other"] (defScope s_u_law_lengths) := ⟨rfl, rfl, rfl, by decide +kernel, rfl, by decide +kernel, by decide +kernel⟩
abbrev s_u_law_number : Stmt := topS 42
theorem sc_u_law_number : FnScope ["cell", "other", "number"] ["cell", "other"] (defScope s_u_law_number) := ⟨rfl, rfl, rfl, by decide +kernel, rfl, by decide +kernel, by decide +kernel⟩
abbrev s_u_law_near : Stmt := topS 43
theorem sc_u_law_near : FnScope ["form", "cell", "data", "at"] ["form", "cell"] (defScope s_u_law_near) := ⟨rfl, rfl, rfl, by decide +kernel, rfl, by decide +kernel, by decide +kernel⟩
abbrev s_law : Stmt := topS 44
theorem sc_law : FnScope ["script", "k", "number", "form", "back", "near", "found"] ["script"] (defScope s_law) := ⟨rfl, rfl, rfl, by decide +kernel, rfl, by decide +kernel, by decide +kernel⟩
def errs : List Str := ["CurveError", "OutOfRange", "Malformed"]
def ancE : List (Str × List Str) := [("CurveError", ["CurveError"]), ("OutOfRange", ["OutOfRange", "CurveError"]), ("Malformed", ["Malformed", "CurveError"])]
def subE (c d : Str) : Bool := match ancE.lookup c with | some l => decide (d ∈ l) | none => false
def fileS : Str := PySem.Challenge.pw_curveseal_k30_lengths_and_numbers.main.file
/-! ### the head -/
def dfs : List He.DefD := [⟨("is_whole", none), "is_whole", "is_whole", defArgs s_is_whole, defBody s_is_whole, defScope s_is_whole, [], []⟩, ⟨("to_little", none), "to_little", "to_little", defArgs s_to_little, defBody s_to_little, defScope s_to_little, [], []⟩, ⟨("to_big", none), "to_big", "to_big", defArgs s_to_big, defBody s_to_big, defScope s_to_big, [], []⟩, ⟨("from_big", none), "from_big", "from_big", defArgs s_from_big, defBody s_from_big, defScope s_from_big, [], []⟩, ⟨("is_bytes", none), "is_bytes", "is_bytes", defArgs s_is_bytes, defBody s_is_bytes, defScope s_is_bytes, [], []⟩, ⟨("write_length", none), "write_length", "write_length", defArgs s_write_length, defBody s_write_length, defScope s_write_length, [], []⟩, ⟨("read_length", none), "read_length", "read_length", defArgs s_read_length, defBody s_read_length, defScope s_read_length, [], []⟩, ⟨("write_number", none), "write_number", "write_number", defArgs s_write_number, defBody s_write_number, defScope s_write_number, [], []⟩, ⟨("_number_content", none), "_number_content", "_number_content", defArgs s_u_number_content, defBody s_u_number_content, defScope s_u_number_content, [], []⟩, ⟨("_part", none), "_part", "_part", defArgs s_u_part, defBody s_u_part, defScope s_u_part, [], []⟩, ⟨("_only_part", none), "_only_part", "_only_part", defArgs s_u_only_part, defBody s_u_only_part, defScope s_u_only_part, [], []⟩, ⟨("_split_parts", none), "_split_parts", "_split_parts", defArgs s_u_split_parts, defBody s_u_split_parts, defScope s_u_split_parts, [], []⟩, ⟨("_number", none), "_number", "_number", defArgs s_u_number, defBody s_u_number, defScope s_u_number, [], []⟩, ⟨("_part_count", none), "_part_count", "_part_count", defArgs s_u_part_count, defBody s_u_part_count, defScope s_u_part_count, [], []⟩, ⟨("read_tree", none), "read_tree", "read_tree", defArgs s_read_tree, defBody s_read_tree, defScope s_read_tree, [], []⟩, ⟨("_tree_value", none), "_tree_value", "_tree_value", defArgs s_u_tree_value, defBody s_u_tree_value, defScope s_u_tree_value, [], []⟩, ⟨("_law_cell", none), "_law_cell", "_law_cell", defArgs s_u_law_cell, defBody s_u_law_cell, defScope s_u_law_cell, [], []⟩, ⟨("_law_twice", none), "_law_twice", "_law_twice", defArgs s_u_law_twice, defBody s_u_law_twice, defScope s_u_law_twice, [], []⟩, ⟨("_law_bytes", none), "_law_bytes", "_law_bytes", defArgs s_u_law_bytes, defBody s_u_law_bytes, defScope s_u_law_bytes, [], []⟩, ⟨("_law_integer", none), "_law_integer", "_law_integer", defArgs s_u_law_integer, defBody s_u_law_integer, defScope s_u_law_integer, [], []⟩, ⟨("_law_is_list", none), "_law_is_list", "_law_is_list", defArgs s_u_law_is_list, defBody s_u_law_is_list, defScope s_u_law_is_list, [], []⟩, ⟨("_law_length", none), "_law_length", "_law_length", defArgs s_u_law_length, defBody s_u_law_length, defScope s_u_law_length, [], []⟩, ⟨("_law_form", none), "_law_form", "_law_form", defArgs s_u_law_form, defBody s_u_law_form, defScope s_u_law_form, [], []⟩, ⟨("_law_call", none), "_law_call", "_law_call", defArgs s_u_law_call, defBody s_u_law_call, defScope s_u_law_call, [], []⟩, ⟨("_law_told", none), "_law_told", "_law_told", defArgs s_u_law_told, defBody s_u_law_told, defScope s_u_law_told, [], []⟩, ⟨("_law_size", none), "_law_size", "_law_size", defArgs s_u_law_size, defBody s_u_law_size, defScope s_u_law_size, [], []⟩, ⟨("_law_due_length", none), "_law_due_length", "_law_due_length", defArgs s_u_law_due_length, defBody s_u_law_due_length, defScope s_u_law_due_length, [], []⟩, ⟨("_law_lengths", none), "_law_lengths", "_law_lengths", defArgs s_u_law_lengths, defBody s_u_law_lengths, defScope s_u_law_lengths, [], []⟩, ⟨("_law_number", none), "_law_number", "_law_number", defArgs s_u_law_number, defBody s_u_law_number, defScope s_u_law_number, [], []⟩, ⟨("_law_near", none), "_law_near", "_law_near", defArgs s_u_law_near, defBody s_u_law_near, defScope s_u_law_near, [], []⟩, ⟨("law", none), "law", "law", defArgs s_law, defBody s_law, defScope s_law, [], []⟩]
def sus : List SupD := []
def tbs : List He.Tab := []
def fas : List He.Fa := [.glo "is_whole", .glo "to_little", .glo "to_big", .glo "from_big", .glo "is_bytes", .glo "write_length", .glo "read_length", .glo "write_number", .glo "_number_content", .glo "_part", .glo "_only_part", .glo "_split_parts", .glo "_number", .glo "_part_count", .glo "read_tree", .glo "_tree_value", .glo "_law_cell", .glo "_law_twice", .glo "_law_bytes", .glo "_law_integer", .glo "_law_is_list", .glo "_law_length", .glo "_law_form", .glo "_law_call", .glo "_law_told", .glo "_law_size", .glo "_law_due_length", .glo "_law_lengths", .glo "_law_number", .glo "_law_near", .glo "law", .glo "CurveError", .glo "OutOfRange", .glo "Malformed", .exc "Malformed", .exc "OutOfRange", .free "abs", .free "all", .free "bool", .free "int", .free "isinstance", .free "len", .free "list", .free "max", .free "min", .free "range", .free "sum", .free "tuple", .free "zip", .int "LONGEST_CONTENT" 65535, .int "LONGEST_NUMBER" 66, .int "MOST_BITS" 520, .int "MOST_LEVELS" 8, .int "MOST_PARTS" 64, .int "NUMBER_TAG" 2, .int "SEQUENCE_TAG" 48, .exm "CurveError" "CurveError" true, .exm "CurveError" "OutOfRange" false, .exm "CurveError" "Malformed" false, .exm "OutOfRange" "CurveError" true, .exm "OutOfRange" "OutOfRange" true, .exm "OutOfRange" "Malformed" false, .exm "Malformed" "CurveError" true, .exm "Malformed" "OutOfRange" false, .exm "Malformed" "Malformed" true]
def cons_ : List (Str × D) := []
def exB (K : PySem.W.Frag) : Bool := (clsB K errs subE && conB K cons_)
abbrev Rw : PySem.W.OpenRow := PySem.W.OpenLaw.row PySem.Challenge.rw_curveseal_k30_lengths_and_numbers
def ads : List Addr := ([3, 6, 4, 24, 37, 49, 58, 63, 70, 77, 82, 89, 96, 103, 110, 117, 124, 131, 138, 143, 150, 155, 162, 169, 176, 183, 190, 197, 204, 211, 218, 225, 232, 239, 246, 253, 260, 0, 23, 36] : List Addr) ++ ([48, 57, 62, 69, 76, 81, 88, 95, 102, 109, 116, 123, 130, 137, 142, 149, 154, 161, 168, 175, 182, 189, 196, 203, 210, 217, 224, 231, 238, 245, 252, 259, 22, 25, 35, 47, 52, 53, 54, 55] : List Addr) ++ ([56, 59, 60, 61, 64, 65, 66, 67, 68, 71, 72, 73, 74, 75, 78, 79, 80, 83, 84, 85, 86, 87, 90, 91, 92, 93, 94, 97, 98, 99, 100, 101, 104, 105, 106, 107, 108, 111, 112, 113] : List Addr) ++ ([114, 115, 118, 119, 120, 121, 122, 125, 126, 127, 128, 129, 132, 133, 134, 135, 136, 139, 140, 141, 144, 145, 146, 147, 148, 151, 152, 153, 156, 157, 158, 159, 160, 163, 164, 165, 166, 167, 170, 171] : List Addr) ++ ([172, 173, 174, 177, 178, 179, 180, 181, 184, 185, 186, 187, 188, 191, 192, 193, 194, 195, 198, 199, 200, 201, 202, 205, 206, 207, 208, 209, 212, 213, 214, 215, 216, 219, 220, 221, 222, 223, 226, 227] : List Addr) ++ ([228, 229, 230, 233, 234, 235, 236, 237, 240, 241, 242, 243, 244, 247, 248, 249, 250, 251, 254, 255, 256, 257, 258, 2] : List Addr)
abbrev hk : PySem.W.Hook := hookZ ads fas dfs tbs sus exB
def ob (s : PySem.W.SharedT) : AlY := obsZ ads fas dfs tbs sus exB (HandSHeadRun.getT s)
theorem ob_eq (s : PySem.W.SharedT) : ob s = hk.obs s.abs := obsZ_eq (HandSHeadRun.getT_eq s)
/-! ### pieces -/
section
open PySem PySem.W PySem.Calls PyProof.Rows HandSHeadRun
def o0 (w : World) : Obj := oD [dE w "__name__" 1 (vS "builtins" 160), dE w "__doc__" 2 (vB "builtins.__doc__:str#opaque"), dE w "__package__" 3 (vB "builtins.__package__:str#opaque"), dE w "__loader__" 4 (vB "builtins.__loader__:shared#opaque"), dE w "__spec__" 5 (vB "builtins.__spec__#opaque"), dE w "__build_class__" 6 (vB "__build_class__"), dE w "__\x69mport__" 7 (vB "__\x69mport__"), dE w "abs" 8 (vB "abs"), dE w "all" 9 (vB "all"), dE w "any" 10 (vB "any"), dE w "ascii" 11 (vB "ascii"), dE w "bin" 12 (vB "bin"), dE w "breakpoint" 13 (vB "breakpoint"), dE w "callable" 14 (vB "callable"), dE w "chr" 15 (vB "chr"), dE w "compile" 16 (vB "compile"), dE w "delattr" 17 (vB "delattr"), dE w "dir" 18 (vB "dir"), dE w "divmod" 19 (vB "divmod"), dE w "eval" 20 (vB "eval"), dE w "exec" 21 (vB "exec"), dE w "format" 22 (vB "format"), dE w "getattr" 23 (vB "getattr"), dE w "globals" 24 (vB "globals"), dE w "hasattr" 25 (vB "hasattr"), dE w "hash" 26 (vB "hash"), dE w "hex" 27 (vB "hex"), dE w "id" 28 (vB "id"), dE w "input" 29 (vB "input"), dE w "isinstance" 30 (vB "isinstance"), dE w "issubclass" 31 (vB "issubclass"), dE w "iter" 32 (vB "iter"), dE w "aiter" 33 (vB "aiter"), dE w "len" 34 (vB "len"), dE w "locals" 35 (vB "locals"), dE w "max" 36 (vB "max"), dE w "min" 37 (vB "min"), dE w "next" 38 (vB "next"), dE w "anext" 39 (vB "anext"), dE w "oct" 40 (vB "oct"), dE w "ord" 41 (vB "ord"), dE w "pow" 42 (vB "pow"), dE w "print" 43 (vB "print"), dE w "repr" 44 (vB "repr"), dE w "round" 45 (vB "round"), dE w "setattr" 46 (vB "setattr"), dE w "sorted" 47 (vB "sorted"), dE w "sum" 48 (vB "sum"), dE w "vars" 49 (vB "vars"), dE w "None" 50 vN, dE w "Ellipsis" 51 .ellipsis, dE w "NotImplemented" 52 .notImplemented, dE w "False" 53 (.bool false), dE w "True" 54 (.bool true), dE w "bool" 55 (vT "bool"), dE w "memoryview" 56 (vT "memoryview"), dE w "bytearray" 57 (vT "bytearray"), dE w "bytes" 58 (vT "bytes"), dE w "classmethod" 59 (vT "classmethod"), dE w "complex" 60 (vT "complex"), dE w "dict" 61 (vT "dict"), dE w "enumerate" 62 (vT "enumerate"), dE w "filter" 63 (vT "filter"), dE w "float" 64 (vT "float"), dE w "frozenset" 65 (vT "frozenset"), dE w "property" 66 (vT "property"), dE w "int" 67 (vT "int"), dE w "list" 68 (vT "list"), dE w "map" 69 (vT "map"), dE w "object" 70 (vT "object"), dE w "range" 71 (vT "range"), dE w "reversed" 72 (vT "reversed"), dE w "set" 73 (vT "set"), dE w "slice" 74 (vT "slice"), dE w "staticmethod" 75 (vT "staticmethod"), dE w "str" 76 (vT "str"), dE w "super" 77 (vT "super"), dE w "tuple" 78 (vT "tuple"), dE w "type" 79 (vT "type"), dE w "zip" 80 (vT "zip"), dE w "__debug__" 81 (.bool true), dE w "BaseException" 82 (vT "BaseException"), dE w "BaseExceptionGroup" 83 (vT "BaseExceptionGroup"), dE w "Exception" 84 (vT "Exception"), dE w "GeneratorExit" 85 (vT "GeneratorExit"), dE w "KeyboardInterrupt" 86 (vT "KeyboardInterrupt"), dE w "SystemExit" 87 (vT "SystemExit"), dE w "ArithmeticError" 88 (vT "ArithmeticError"), dE w "AssertionError" 89 (vT "AssertionError"), dE w "AttributeError" 90 (vT "AttributeError"), dE w "BufferError" 91 (vT "BufferError"), dE w "EOFError" 92 (vT "EOFError"), dE w "ImportError" 93 (vT "ImportError"), dE w "LookupError" 94 (vT "LookupError"), dE w "MemoryError" 95 (vT "MemoryError"), dE w "NameError" 96 (vT "NameError"), dE w "OSError" 97 (vT "OSError"), dE w "ReferenceError" 98 (vT "ReferenceError"), dE w "RuntimeError" 99 (vT "RuntimeError"), dE w "StopAsyncIteration" 100 (vT "StopAsyncIteration"), dE w "StopIteration" 101 (vT "StopIteration"), dE w "SyntaxError" 102 (vT "SyntaxError"), dE w "SystemError" 103 (vT "SystemError"), dE w "TypeError" 104 (vT "TypeError"), dE w "ValueError" 105 (vT "ValueError"), dE w "Warning" 106 (vT "Warning"), dE w "FloatingPointError" 107 (vT "FloatingPointError"), dE w "OverflowError" 108 (vT "OverflowError"), dE w "ZeroDivisionError" 109 (vT "ZeroDivisionError"), dE w "BytesWarning" 110 (vT "BytesWarning"), dE w "DeprecationWarning" 111 (vT "DeprecationWarning"), dE w "EncodingWarning" 112 (vT "EncodingWarning"), dE w "FutureWarning" 113 (vT "FutureWarning"), dE w "ImportWarning" 114 (vT "ImportWarning"), dE w "PendingDeprecationWarning" 115 (vT "PendingDeprecationWarning"), dE w "ResourceWarning" 116 (vT "ResourceWarning"), dE w "RuntimeWarning" 117 (vT "RuntimeWarning"), dE w "SyntaxWarning" 118 (vT "SyntaxWarning"), dE w "UnicodeWarning" 119 (vT "UnicodeWarning"), dE w "UserWarning" 120 (vT "UserWarning"), dE w "BlockingIOError" 121 (vT "BlockingIOError"), dE w "ChildProcessError" 122 (vT "ChildProcessError"), dE w "ConnectionError" 123 (vT "ConnectionError"), dE w "FileExistsError" 124 (vT "FileExistsError"), dE w "FileNotFoundError" 125 (vT "FileNotFoundError"), dE w "InterruptedError" 126 (vT "InterruptedError"), dE w "IsADirectoryError" 127 (vT "IsADirectoryError"), dE w "NotADirectoryError" 128 (vT "NotADirectoryError"), dE w "PermissionError" 129 (vT "PermissionError"), dE w "ProcessLookupError" 130 (vT "ProcessLookupError"), dE w "TimeoutError" 131 (vT "TimeoutError"), dE w "IndentationError" 132 (vT "IndentationError"), dE w "_IncompleteInputError" 133 (vT "_IncompleteInputError"), dE w "IndexError" 134 (vT "IndexError"), dE w "KeyError" 135 (vT "KeyError"), dE w "ModuleNotFoundError" 136 (vT "ModuleNotFoundError"), dE w "NotImplementedError" 137 (vT "NotImplementedError"), dE w "PythonFinalizationError" 138 (vT "PythonFinalizationError"), dE w "RecursionError" 139 (vT "RecursionError"), dE w "UnboundLocalError" 140 (vT "UnboundLocalError"), dE w "UnicodeError" 141 (vT "UnicodeError"), dE w "BrokenPipeError" 142 (vT "BrokenPipeError"), dE w "ConnectionAbortedError" 143 (vT "ConnectionAbortedError"), dE w "ConnectionRefusedError" 144 (vT "ConnectionRefusedError"), dE w "ConnectionResetError" 145 (vT "ConnectionResetError"), dE w "TabError" 146 (vT "TabError"), dE w "UnicodeDecodeError" 147 (vT "UnicodeDecodeError"), dE w "UnicodeEncodeError" 148 (vT "UnicodeEncodeError"), dE w "UnicodeTranslateError" 149 (vT "UnicodeTranslateError"), dE w "ExceptionGroup" 150 (vT "ExceptionGroup"), dE w "EnvironmentError" 151 (vT "OSError"), dE w "IOError" 152 (vT "OSError"), dE w "open" 153 (vB "open"), dE w "quit" 154 (vB "builtins.quit#opaque"), dE w "exit" 155 (vB "builtins.exit#opaque"), dE w "copyright" 156 (vB "builtins.copyright#opaque"), dE w "credits" 157 (vB "builtins.credits#opaque"), dE w "license" 158 (vB "builtins.license#opaque"), dE w "help" 159 (vB "builtins.help#opaque")] 159
def o1 (w : World) : Obj := oD [dE w "builtins" 162 (vR 4), dE w "__main__" 163 (vR 5)] 2
def o2 (w : World) : Obj := ⟨vN, none, .dict [].toArray 0, [].toArray⟩
def o3 (w : World) : Obj := oD [dE w "__name__" 165 (vS "__main__" 164), dE w "__doc__" 166 vN, dE w "__package__" 167 vN, dE w "__loader__" 168 (vB "__main__.__loader__#opaque"), dE w "__spec__" 169 vN, dE w "__annotations__" 170 (vR 6), dE w "__builtins__" 171 (vR 4), dE w "__file__" 173 (vS "/claim/cut.py" 172), dE w "__cached__" 174 vN] 9
def o4 : Obj := ⟨(vT "module"), (some 0), .plain, [].toArray⟩
def o5 : Obj := ⟨(vT "module"), (some 3), .plain, [].toArray⟩
def o6 (w : World) : Obj := oD [] 0
def o7 : Obj := oT []
def o8 : Obj := oF vN []
def o9 : Obj := oF (vT "code") [(vS "<module>" 176), (vS "<module>" 177), (vS "/claim/cut.py" 178), (vI (1) 0), (vI (0) 0), (vI (0) 0), (vI (0) 0), (vI (0) 0), (vR 7), (.bool false), (vI (175) 0), (vR 8), vN, vN, vN, vN, (vI (179) 0), (vI (1) 0), (vS "/claim/cut.py" 180)]
def o10 : Obj := oP (vT "frame") [(some (vR 9)), (some (vR 3)), (some (vR 3)), none, (some (vS "__main__" 164)), none, (some (vR 0))]
def o11 : Obj := oT []
def o12 : Obj := oF vN []
def o13 : Obj := oF (vT "code") [(vS "<module>" 182), (vS "<module>" 183), (vS "/claim/cut.py" 184), (vI (1) 0), (vI (0) 0), (vI (0) 0), (vI (0) 0), (vI (0) 0), (vR 11), (.bool false), (vI (181) 0), (vR 12), vN, vN, vN, vN, (vI (185) 0), (vI (1) 0), (vS "/claim/cut.py" 186)]
def o14 : Obj := oP (vT "frame") [(some (vR 13)), (some (vR 3)), (some (vR 3)), none, (some (vS "__main__" 164)), none, (some (vR 0))]
def o3_1 (w : World) : Obj := oD [dE w "__name__" 165 (vS "law_curveseal_k30_lengths_and_numbers" 383), dE w "__doc__" 166 vN, dE w "__package__" 167 vN, dE w "__loader__" 168 (vB "__main__.__loader__#opaque"), dE w "__spec__" 169 vN, dE w "__annotations__" 170 (vR 6), dE w "__builtins__" 171 (vR 4), dE w "__file__" 173 (vS "/claim/cut.py" 172), dE w "__cached__" 174 vN, dE w "CurveError" 206 (vR 24), dE w "OutOfRange" 222 (vR 37), dE w "Malformed" 238 (vR 49), dE w "is_whole" 247 (vR 58), dE w "to_little" 253 (vR 63), dE w "to_big" 261 (vR 70), dE w "from_big" 270 (vR 77), dE w "is_bytes" 276 (vR 82), dE w "NUMBER_TAG" 280 (vI (2) 279), dE w "SEQUENCE_TAG" 282 (vI (48) 281), dE w "LONGEST_CONTENT" 284 (vI (65535) 283), dE w "MOST_BITS" 286 (vI (520) 285), dE w "LONGEST_NUMBER" 288 (vI (66) 287), dE w "MOST_LEVELS" 290 (vI (8) 289), dE w "MOST_PARTS" 292 (vI (64) 291), dE w "write_length" 299 (vR 89), dE w "read_length" 310 (vR 96), dE w "write_number" 317 (vR 103), dE w "_number_content" 324 (vR 110), dE w "_part" 332 (vR 117), dE w "_only_part" 340 (vR 124), dE w "_split_parts" 352 (vR 131), dE w "_number" 360 (vR 138), dE w "_part_count" 366 (vR 143), dE w "read_tree" 376 (vR 150), dE w "_tree_value" 382 (vR 155), dE w "_law_cell" 392 (vR 162), dE w "_law_twice" 401 (vR 169), dE w "_law_bytes" 413 (vR 176), dE w "_law_integer" 420 (vR 183), dE w "_law_is_list" 430 (vR 190), dE w "_law_length" 437 (vR 197), dE w "_law_form" 447 (vR 204), dE w "_law_call" 456 (vR 211), dE w "_law_told" 465 (vR 218), dE w "_law_size" 472 (vR 225), dE w "_law_due_length" 483 (vR 232), dE w "_law_lengths" 494 (vR 239), dE w "_law_number" 503 (vR 246), dE w "_law_near" 513 (vR 253), dE w "law" 526 (vR 260)] 50
def o12_1 : Obj := oF vN [(vI (2) 0), (vI (0) 0), (vR 20), (vI (4) 0), (vI (0) 0), (vR 33), (vI (6) 0), (vI (0) 0), (vR 45), (vI (9) 0), (vI (0) 0), (vR 57), (vI (11) 0), (vI (0) 0), (vR 62), (vI (15) 0), (vI (0) 0), (vR 69), (vI (17) 0), (vI (0) 0), (vR 76), (vI (22) 0), (vI (0) 0), (vR 81), (vI (32) 0), (vI (0) 0), (vR 88), (vI (40) 0), (vI (0) 0), (vR 95), (vI (52) 0), (vI (0) 0), (vR 102), (vI (56) 0), (vI (0) 0), (vR 109), (vI (58) 0), (vI (0) 0), (vR 116), (vI (60) 0), (vI (0) 0), (vR 123), (vI (67) 0), (vI (0) 0), (vR 130), (vI (78) 0), (vI (0) 0), (vR 137), (vI (85) 0), (vI (0) 0), (vR 142), (vI (89) 0), (vI (0) 0), (vR 149), (vI (95) 0), (vI (0) 0), (vR 154), (vI (104) 0), (vI (0) 0), (vR 161), (vI (108) 0), (vI (0) 0), (vR 168), (vI (113) 0), (vI (0) 0), (vR 175), (vI (124) 0), (vI (0) 0), (vR 182), (vI (126) 0), (vI (0) 0), (vR 189), (vI (133) 0), (vI (0) 0), (vR 196), (vI (139) 0), (vI (0) 0), (vR 203), (vI (150) 0), (vI (0) 0), (vR 210), (vI (158) 0), (vI (0) 0), (vR 217), (vI (167) 0), (vI (0) 0), (vR 224), (vI (171) 0), (vI (0) 0), (vR 231), (vI (182) 0), (vI (0) 0), (vR 238), (vI (196) 0), (vI (0) 0), (vR 245), (vI (204) 0), (vI (0) 0), (vR 252), (vI (216) 0), (vI (0) 0), (vR 259)]
def o15 : Obj := oT [(vT "ValueError")]
def o16 : Obj := oF (vT "builtin_function_or_method") [(vB "type.__prepare__"), (vT "type")]
def o17 (w : World) : Obj := oD [dE w "__module__" 196 (vS "curveseal.errors" 187), dE w "__qualname__" 198 (vS "CurveError" 197), dE w "__firstlineno__" 200 (vI (2) 199), dE w "__static_attributes__" 201 (vR 22)] 4
def o18 : Obj := oT []
def o19 : Obj := oF vN []
def o20 : Obj := oF (vT "code") [(vS "CurveError" 191), (vS "CurveError" 192), (vS "/claim/cut.py" 193), (vI (2) 0), (vI (0) 0), (vI (0) 0), (vI (0) 0), (vI (0) 0), (vR 18), (.bool false), (vI (181) 0), (vR 19), vN, vN, vN, vN, (vI (194) 0), (vI (2) 0), (vS "/claim/cut.py" 195)]
def o21 : Obj := oP (vT "frame") [(some (vR 20)), (some (vR 3)), (some (vR 17)), none, (some (vS "curveseal.errors" 187)), none, (some (vR 0))]
def o22 : Obj := oT []
def o23 (w : World) : Obj := oD [dE w "__module__" 196 (vS "curveseal.errors" 187), dE w "__firstlineno__" 200 (vI (2) 199), dE w "__static_attributes__" 201 (vR 22), dE w "__weakref__" 203 (vR 25), dE w "__doc__" 204 vN] 3
def o24 : Obj := ⟨(vT "type"), none, .cls ⟨.ofString "CurveError", [(vT "ValueError")], [(vR 24), (vT "ValueError"), (vT "Exception"), (vT "BaseException"), (vT "object")], 23, .ofString "CurveError", true, [], [(vR 37), (vR 49)], false, none, false⟩, [(some (vR 15)), none, (some (vS "CurveError" 189)), (some (vS "CurveError" 197)), (some (vB "ValueError.__new__")), (some (.bool true))].toArray⟩
def o25 : Obj := oF (vT "getset_descriptor") [(vS "__weakref__" 202), (vR 24), (vB "ExceptionGroup.__weakref__"), vN]
def o26 : Obj := oF (vT "super") [(vR 24), (vR 24), (vR 24)]
def o27 : Obj := oF (vT "builtin_function_or_method") [(vB "object.__init_subclass__"), (vR 24)]
def o28 : Obj := oT [(vR 24)]
def o29 : Obj := oF (vT "builtin_function_or_method") [(vB "type.__prepare__"), (vT "type")]
def o30 (w : World) : Obj := oD [dE w "__module__" 214 (vS "curveseal.errors" 187), dE w "__qualname__" 216 (vS "OutOfRange" 215), dE w "__firstlineno__" 218 (vI (4) 217), dE w "__static_attributes__" 219 (vR 35)] 4
def o31 : Obj := oT []
def o32 : Obj := oF vN []
def o33 : Obj := oF (vT "code") [(vS "OutOfRange" 209), (vS "OutOfRange" 210), (vS "/claim/cut.py" 211), (vI (4) 0), (vI (0) 0), (vI (0) 0), (vI (0) 0), (vI (0) 0), (vR 31), (.bool false), (vI (181) 0), (vR 32), vN, vN, vN, vN, (vI (212) 0), (vI (4) 0), (vS "/claim/cut.py" 213)]
def o34 : Obj := oP (vT "frame") [(some (vR 33)), (some (vR 3)), (some (vR 30)), none, (some (vS "curveseal.errors" 187)), none, (some (vR 0))]
def o35 : Obj := oT []
def o36 (w : World) : Obj := oD [dE w "__module__" 214 (vS "curveseal.errors" 187), dE w "__firstlineno__" 218 (vI (4) 217), dE w "__static_attributes__" 219 (vR 35), dE w "__doc__" 220 vN] 2
def o37 : Obj := oC (vT "type") none "OutOfRange" [(vR 24)] [(vR 37), (vR 24), (vT "ValueError"), (vT "Exception"), (vT "BaseException"), (vT "object")] 36 "OutOfRange" [(some (vR 28)), none, (some (vS "OutOfRange" 207)), (some (vS "OutOfRange" 215)), (some (vB "ValueError.__new__")), (some (.bool true))]
def o38 : Obj := oF (vT "super") [(vR 37), (vR 37), (vR 37)]
def o39 : Obj := oF (vT "builtin_function_or_method") [(vB "object.__init_subclass__"), (vR 37)]
def o40 : Obj := oT [(vR 24)]
def o41 : Obj := oF (vT "builtin_function_or_method") [(vB "type.__prepare__"), (vT "type")]
def o42 (w : World) : Obj := oD [dE w "__module__" 230 (vS "curveseal.errors" 187), dE w "__qualname__" 232 (vS "Malformed" 231), dE w "__firstlineno__" 234 (vI (6) 233), dE w "__static_attributes__" 235 (vR 47)] 4
def o43 : Obj := oT []
def o44 : Obj := oF vN []
def o45 : Obj := oF (vT "code") [(vS "Malformed" 225), (vS "Malformed" 226), (vS "/claim/cut.py" 227), (vI (6) 0), (vI (0) 0), (vI (0) 0), (vI (0) 0), (vI (0) 0), (vR 43), (.bool false), (vI (181) 0), (vR 44), vN, vN, vN, vN, (vI (228) 0), (vI (6) 0), (vS "/claim/cut.py" 229)]
def o46 : Obj := oP (vT "frame") [(some (vR 45)), (some (vR 3)), (some (vR 42)), none, (some (vS "curveseal.errors" 187)), none, (some (vR 0))]
def o47 : Obj := oT []
def o48 (w : World) : Obj := oD [dE w "__module__" 230 (vS "curveseal.errors" 187), dE w "__firstlineno__" 234 (vI (6) 233), dE w "__static_attributes__" 235 (vR 47), dE w "__doc__" 236 vN] 2
def o49 : Obj := oC (vT "type") none "Malformed" [(vR 24)] [(vR 49), (vR 24), (vT "ValueError"), (vT "Exception"), (vT "BaseException"), (vT "object")] 48 "Malformed" [(some (vR 40)), none, (some (vS "Malformed" 223)), (some (vS "Malformed" 231)), (some (vB "ValueError.__new__")), (some (.bool true))]
def o50 : Obj := oF (vT "super") [(vR 49), (vR 49), (vR 49)]
def o51 : Obj := oF (vT "builtin_function_or_method") [(vB "object.__init_subclass__"), (vR 49)]
def o52 : Obj := oT []
def o53 : Obj := oF vN []
def o54 : Obj := oT [(vS "value" 244)]
def o55 : Obj := oT []
def o56 : Obj := oU vN "is_whole" "is_whole" (topS 5) 0 [] vN vN vN none vN vN 0 []
def o57 : Obj := oF (vT "code") [(vS "is_whole" 241), (vS "is_whole" 242), (vS "/claim/cut.py" 243), (vI (9) 0), (vI (1) 0), (vI (0) 0), (vI (0) 0), (vI (3) 0), (vR 52), (.bool true), (vI (181) 0), (vR 53), vN, (vR 54), (vR 55), (vR 56), (vI (245) 0), (vI (9) 0), (vS "/claim/cut.py" 246)]
def o58 : Obj := oU (vT "function") "is_whole" "is_whole" (topS 5) 3 [] vN vN (vS "curveseal.octets" 239) none (vR 57) vN 0 []
def o59 : Obj := oT []
def o60 : Obj := oF vN []
def o61 : Obj := oU vN "to_little" "to_little" (topS 6) 0 [] vN vN vN none vN vN 0 []
def o62 : Obj := oF (vT "code") [(vS "to_little" 248), (vS "to_little" 249), (vS "/claim/cut.py" 250), (vI (11) 0), (vI (2) 0), (vI (0) 0), (vI (0) 0), (vI (3) 0), (vR 59), (.bool true), (vI (181) 0), (vR 60), vN, vN, vN, (vR 61), (vI (251) 0), (vI (11) 0), (vS "/claim/cut.py" 252)]
def o63 : Obj := oU (vT "function") "to_little" "to_little" (topS 6) 3 [] vN vN (vS "curveseal.octets" 239) none (vR 62) vN 0 []
def o64 : Obj := oT []
def o65 : Obj := oF vN []
def o66 : Obj := oT [(vS "number" 257), (vS "size" 258)]
def o67 : Obj := oT []
def o68 : Obj := oU vN "to_big" "to_big" (topS 7) 0 [] vN vN vN none vN vN 0 []
def o69 : Obj := oF (vT "code") [(vS "to_big" 254), (vS "to_big" 255), (vS "/claim/cut.py" 256), (vI (15) 0), (vI (2) 0), (vI (0) 0), (vI (0) 0), (vI (3) 0), (vR 64), (.bool true), (vI (181) 0), (vR 65), vN, (vR 66), (vR 67), (vR 68), (vI (259) 0), (vI (15) 0), (vS "/claim/cut.py" 260)]
def o70 : Obj := oU (vT "function") "to_big" "to_big" (topS 7) 3 [] vN vN (vS "curveseal.octets" 239) none (vR 69) vN 0 []
def o71 : Obj := oT []
def o72 : Obj := oF vN []
def o73 : Obj := oT [(vS "data" 265), (vS "number" 266), (vS "byte" 267)]
def o74 : Obj := oT []
def o75 : Obj := oU vN "from_big" "from_big" (topS 8) 0 [] vN vN vN none vN vN 0 []
def o76 : Obj := oF (vT "code") [(vS "from_big" 262), (vS "from_big" 263), (vS "/claim/cut.py" 264), (vI (17) 0), (vI (1) 0), (vI (0) 0), (vI (0) 0), (vI (3) 0), (vR 71), (.bool true), (vI (181) 0), (vR 72), vN, (vR 73), (vR 74), (vR 75), (vI (268) 0), (vI (17) 0), (vS "/claim/cut.py" 269)]
def o77 : Obj := oU (vT "function") "from_big" "from_big" (topS 8) 3 [] vN vN (vS "curveseal.octets" 239) none (vR 76) vN 0 []
def o78 : Obj := oT []
def o79 : Obj := oF vN []
def o80 : Obj := oU vN "is_bytes" "is_bytes" (topS 9) 0 [] vN vN vN none vN vN 0 []
def o81 : Obj := oF (vT "code") [(vS "is_bytes" 271), (vS "is_bytes" 272), (vS "/claim/cut.py" 273), (vI (22) 0), (vI (1) 0), (vI (0) 0), (vI (0) 0), (vI (3) 0), (vR 78), (.bool true), (vI (181) 0), (vR 79), vN, vN, vN, (vR 80), (vI (274) 0), (vI (22) 0), (vS "/claim/cut.py" 275)]
def o82 : Obj := oU (vT "function") "is_bytes" "is_bytes" (topS 9) 3 [] vN vN (vS "curveseal.octets" 239) none (vR 81) vN 0 []
def o83 : Obj := oT []
def o84 : Obj := oF vN []
def o85 : Obj := oT [(vS "size" 296)]
def o86 : Obj := oT []
def o87 : Obj := oU vN "write_length" "write_length" (topS 18) 0 [] vN vN vN none vN vN 0 []
def o88 : Obj := oF (vT "code") [(vS "write_length" 293), (vS "write_length" 294), (vS "/claim/cut.py" 295), (vI (32) 0), (vI (1) 0), (vI (0) 0), (vI (0) 0), (vI (3) 0), (vR 83), (.bool true), (vI (181) 0), (vR 84), vN, (vR 85), (vR 86), (vR 87), (vI (297) 0), (vI (32) 0), (vS "/claim/cut.py" 298)]
def o89 : Obj := oU (vT "function") "write_length" "write_length" (topS 18) 3 [] vN vN (vS "curveseal.tagged" 277) none (vR 88) vN 0 []
def o90 : Obj := oT []
def o91 : Obj := oF vN []
def o92 : Obj := oT [(vS "data" 303), (vS "at" 304), (vS "first" 305), (vS "behind" 306), (vS "size" 307)]
def o93 : Obj := oT []
def o94 : Obj := oU vN "read_length" "read_length" (topS 19) 0 [] vN vN vN none vN vN 0 []
def o95 : Obj := oF (vT "code") [(vS "read_length" 300), (vS "read_length" 301), (vS "/claim/cut.py" 302), (vI (40) 0), (vI (2) 0), (vI (0) 0), (vI (0) 0), (vI (3) 0), (vR 90), (.bool true), (vI (181) 0), (vR 91), vN, (vR 92), (vR 93), (vR 94), (vI (308) 0), (vI (40) 0), (vS "/claim/cut.py" 309)]
def o96 : Obj := oU (vT "function") "read_length" "read_length" (topS 19) 3 [] vN vN (vS "curveseal.tagged" 277) none (vR 95) vN 0 []
def o97 : Obj := oT []
def o98 : Obj := oF vN []
def o99 : Obj := oT [(vS "number" 314)]
def o100 : Obj := oT []
def o101 : Obj := oU vN "write_number" "write_number" (topS 20) 0 [] vN vN vN none vN vN 0 []
def o102 : Obj := oF (vT "code") [(vS "write_number" 311), (vS "write_number" 312), (vS "/claim/cut.py" 313), (vI (52) 0), (vI (1) 0), (vI (0) 0), (vI (0) 0), (vI (3) 0), (vR 97), (.bool true), (vI (181) 0), (vR 98), vN, (vR 99), (vR 100), (vR 101), (vI (315) 0), (vI (52) 0), (vS "/claim/cut.py" 316)]
def o103 : Obj := oU (vT "function") "write_number" "write_number" (topS 20) 3 [] vN vN (vS "curveseal.tagged" 277) none (vR 102) vN 0 []
def o104 : Obj := oT []
def o105 : Obj := oF vN []
def o106 : Obj := oT [(vS "number" 321)]
def o107 : Obj := oT []
def o108 : Obj := oU vN "_number_content" "_number_content" (topS 21) 0 [] vN vN vN none vN vN 0 []
def o109 : Obj := oF (vT "code") [(vS "_number_content" 318), (vS "_number_content" 319), (vS "/claim/cut.py" 320), (vI (56) 0), (vI (1) 0), (vI (0) 0), (vI (0) 0), (vI (3) 0), (vR 104), (.bool true), (vI (181) 0), (vR 105), vN, (vR 106), (vR 107), (vR 108), (vI (322) 0), (vI (56) 0), (vS "/claim/cut.py" 323)]
def o110 : Obj := oU (vT "function") "_number_content" "_number_content" (topS 21) 3 [] vN vN (vS "curveseal.tagged" 277) none (vR 109) vN 0 []
def o111 : Obj := oT []
def o112 : Obj := oF vN []
def o113 : Obj := oT [(vS "tag" 328), (vS "content" 329)]
def o114 : Obj := oT []
def o115 : Obj := oU vN "_part" "_part" (topS 22) 0 [] vN vN vN none vN vN 0 []
def o116 : Obj := oF (vT "code") [(vS "_part" 325), (vS "_part" 326), (vS "/claim/cut.py" 327), (vI (58) 0), (vI (2) 0), (vI (0) 0), (vI (0) 0), (vI (3) 0), (vR 111), (.bool true), (vI (181) 0), (vR 112), vN, (vR 113), (vR 114), (vR 115), (vI (330) 0), (vI (58) 0), (vS "/claim/cut.py" 331)]
def o117 : Obj := oU (vT "function") "_part" "_part" (topS 22) 3 [] vN vN (vS "curveseal.tagged" 277) none (vR 116) vN 0 []
def o118 : Obj := oT []
def o119 : Obj := oF vN []
def o120 : Obj := oT [(vS "data" 336), (vS "parts" 337)]
def o121 : Obj := oT []
def o122 : Obj := oU vN "_only_part" "_only_part" (topS 23) 0 [] vN vN vN none vN vN 0 []
def o123 : Obj := oF (vT "code") [(vS "_only_part" 333), (vS "_only_part" 334), (vS "/claim/cut.py" 335), (vI (60) 0), (vI (1) 0), (vI (0) 0), (vI (0) 0), (vI (3) 0), (vR 118), (.bool true), (vI (181) 0), (vR 119), vN, (vR 120), (vR 121), (vR 122), (vI (338) 0), (vI (60) 0), (vS "/claim/cut.py" 339)]
def o124 : Obj := oU (vT "function") "_only_part" "_only_part" (topS 23) 3 [] vN vN (vS "curveseal.tagged" 277) none (vR 123) vN 0 []
def o125 : Obj := oT []
def o126 : Obj := oF vN []
def o127 : Obj := oT [(vS "data" 344), (vS "parts" 345), (vS "at" 346), (vS "size" 347), (vS "start" 348), (vS "behind" 349)]
def o128 : Obj := oT []
def o129 : Obj := oU vN "_split_parts" "_split_parts" (topS 24) 0 [] vN vN vN none vN vN 0 []
def o130 : Obj := oF (vT "code") [(vS "_split_parts" 341), (vS "_split_parts" 342), (vS "/claim/cut.py" 343), (vI (67) 0), (vI (1) 0), (vI (0) 0), (vI (0) 0), (vI (3) 0), (vR 125), (.bool true), (vI (181) 0), (vR 126), vN, (vR 127), (vR 128), (vR 129), (vI (350) 0), (vI (67) 0), (vS "/claim/cut.py" 351)]
def o131 : Obj := oU (vT "function") "_split_parts" "_split_parts" (topS 24) 3 [] vN vN (vS "curveseal.tagged" 277) none (vR 130) vN 0 []
def o132 : Obj := oT []
def o133 : Obj := oF vN []
def o134 : Obj := oT [(vS "content" 356), (vS "number" 357)]
def o135 : Obj := oT []
def o136 : Obj := oU vN "_number" "_number" (topS 25) 0 [] vN vN vN none vN vN 0 []
def o137 : Obj := oF (vT "code") [(vS "_number" 353), (vS "_number" 354), (vS "/claim/cut.py" 355), (vI (78) 0), (vI (1) 0), (vI (0) 0), (vI (0) 0), (vI (3) 0), (vR 132), (.bool true), (vI (181) 0), (vR 133), vN, (vR 134), (vR 135), (vR 136), (vI (358) 0), (vI (78) 0), (vS "/claim/cut.py" 359)]
def o138 : Obj := oU (vT "function") "_number" "_number" (topS 25) 3 [] vN vN (vS "curveseal.tagged" 277) none (vR 137) vN 0 []
def o139 : Obj := oT []
def o140 : Obj := oF vN []
def o141 : Obj := oU vN "_part_count" "_part_count" (topS 26) 0 [] vN vN vN none vN vN 0 []
def o142 : Obj := oF (vT "code") [(vS "_part_count" 361), (vS "_part_count" 362), (vS "/claim/cut.py" 363), (vI (85) 0), (vI (1) 0), (vI (0) 0), (vI (0) 0), (vI (3) 0), (vR 139), (.bool true), (vI (181) 0), (vR 140), vN, vN, vN, (vR 141), (vI (364) 0), (vI (85) 0), (vS "/claim/cut.py" 365)]
def o143 : Obj := oU (vT "function") "_part_count" "_part_count" (topS 26) 3 [] vN vN (vS "curveseal.tagged" 277) none (vR 142) vN 0 []
def o144 : Obj := oT []
def o145 : Obj := oF vN []
def o146 : Obj := oT [(vS "data" 370), (vS "tag" 371), (vS "content" 372), (vS "value" 373)]
def o147 : Obj := oT []
def o148 : Obj := oU vN "read_tree" "read_tree" (topS 27) 0 [] vN vN vN none vN vN 0 []
def o149 : Obj := oF (vT "code") [(vS "read_tree" 367), (vS "read_tree" 368), (vS "/claim/cut.py" 369), (vI (89) 0), (vI (1) 0), (vI (0) 0), (vI (0) 0), (vI (3) 0), (vR 144), (.bool true), (vI (181) 0), (vR 145), vN, (vR 146), (vR 147), (vR 148), (vI (374) 0), (vI (89) 0), (vS "/claim/cut.py" 375)]
def o150 : Obj := oU (vT "function") "read_tree" "read_tree" (topS 27) 3 [] vN vN (vS "curveseal.tagged" 277) none (vR 149) vN 0 []
def o151 : Obj := oT []
def o152 : Obj := oF vN []
def o153 : Obj := oU vN "_tree_value" "_tree_value" (topS 28) 0 [] vN vN vN none vN vN 0 []
def o154 : Obj := oF (vT "code") [(vS "_tree_value" 377), (vS "_tree_value" 378), (vS "/claim/cut.py" 379), (vI (95) 0), (vI (3) 0), (vI (0) 0), (vI (0) 0), (vI (3) 0), (vR 151), (.bool true), (vI (181) 0), (vR 152), vN, vN, vN, (vR 153), (vI (380) 0), (vI (95) 0), (vS "/claim/cut.py" 381)]
def o155 : Obj := oU (vT "function") "_tree_value" "_tree_value" (topS 28) 3 [] vN vN (vS "curveseal.tagged" 277) none (vR 154) vN 0 []
def o156 : Obj := oT []
def o157 : Obj := oF vN []
def o158 : Obj := oT [(vS "script" 388), (vS "k" 389)]
def o159 : Obj := oT []
def o160 : Obj := oU vN "_law_cell" "_law_cell" (topS 30) 0 [] vN vN vN none vN vN 0 []
def o161 : Obj := oF (vT "code") [(vS "_law_cell" 385), (vS "_law_cell" 386), (vS "/claim/cut.py" 387), (vI (104) 0), (vI (2) 0), (vI (0) 0), (vI (0) 0), (vI (3) 0), (vR 156), (.bool true), (vI (181) 0), (vR 157), vN, (vR 158), (vR 159), (vR 160), (vI (390) 0), (vI (104) 0), (vS "/claim/cut.py" 391)]
def o162 : Obj := oU (vT "function") "_law_cell" "_law_cell" (topS 30) 3 [] vN vN (vS "law_curveseal_k30_lengths_and_numbers" 383) none (vR 161) vN 0 []
def o163 : Obj := oT []
def o164 : Obj := oF vN []
def o165 : Obj := oT [(vS "cell" 396), (vS "k" 397), (vS "x" 398)]
def o166 : Obj := oT []
def o167 : Obj := oU vN "_law_twice" "_law_twice" (topS 31) 0 [] vN vN vN none vN vN 0 []
def o168 : Obj := oF (vT "code") [(vS "_law_twice" 393), (vS "_law_twice" 394), (vS "/claim/cut.py" 395), (vI (108) 0), (vI (2) 0), (vI (0) 0), (vI (0) 0), (vI (3) 0), (vR 163), (.bool true), (vI (181) 0), (vR 164), vN, (vR 165), (vR 166), (vR 167), (vI (399) 0), (vI (108) 0), (vS "/claim/cut.py" 400)]
def o169 : Obj := oU (vT "function") "_law_twice" "_law_twice" (topS 31) 3 [] vN vN (vS "law_curveseal_k30_lengths_and_numbers" 383) none (vR 168) vN 0 []
def o170 : Obj := oT []
def o171 : Obj := oF vN []
def o172 : Obj := oT [(vS "cell" 405), (vS "size" 406), (vS "left" 407), (vS "great" 408), (vS "data" 409), (vS "k" 410)]
def o173 : Obj := oT []
def o174 : Obj := oU vN "_law_bytes" "_law_bytes" (topS 32) 0 [] vN vN vN none vN vN 0 []
def o175 : Obj := oF (vT "code") [(vS "_law_bytes" 402), (vS "_law_bytes" 403), (vS "/claim/cut.py" 404), (vI (113) 0), (vI (2) 0), (vI (0) 0), (vI (0) 0), (vI (3) 0), (vR 170), (.bool true), (vI (181) 0), (vR 171), vN, (vR 172), (vR 173), (vR 174), (vI (411) 0), (vI (113) 0), (vS "/claim/cut.py" 412)]
def o176 : Obj := oU (vT "function") "_law_bytes" "_law_bytes" (topS 32) 3 [] vN vN (vS "law_curveseal_k30_lengths_and_numbers" 383) none (vR 175) vN 0 []
def o177 : Obj := oT []
def o178 : Obj := oF vN []
def o179 : Obj := oT [(vS "x" 417)]
def o180 : Obj := oT []
def o181 : Obj := oU vN "_law_integer" "_law_integer" (topS 33) 0 [] vN vN vN none vN vN 0 []
def o182 : Obj := oF (vT "code") [(vS "_law_integer" 414), (vS "_law_integer" 415), (vS "/claim/cut.py" 416), (vI (124) 0), (vI (1) 0), (vI (0) 0), (vI (0) 0), (vI (3) 0), (vR 177), (.bool true), (vI (181) 0), (vR 178), vN, (vR 179), (vR 180), (vR 181), (vI (418) 0), (vI (124) 0), (vS "/claim/cut.py" 419)]
def o183 : Obj := oU (vT "function") "_law_integer" "_law_integer" (topS 33) 3 [] vN vN (vS "law_curveseal_k30_lengths_and_numbers" 383) none (vR 182) vN 0 []
def o184 : Obj := oT []
def o185 : Obj := oF vN []
def o186 : Obj := oT [(vS "found" 424), (vS "due" 425), (vS "one" 426), (vS "other" 427)]
def o187 : Obj := oT []
def o188 : Obj := oU vN "_law_is_list" "_law_is_list" (topS 34) 0 [] vN vN vN none vN vN 0 []
def o189 : Obj := oF (vT "code") [(vS "_law_is_list" 421), (vS "_law_is_list" 422), (vS "/claim/cut.py" 423), (vI (126) 0), (vI (2) 0), (vI (0) 0), (vI (0) 0), (vI (3) 0), (vR 184), (.bool true), (vI (181) 0), (vR 185), vN, (vR 186), (vR 187), (vR 188), (vI (428) 0), (vI (126) 0), (vS "/claim/cut.py" 429)]
def o190 : Obj := oU (vT "function") "_law_is_list" "_law_is_list" (topS 34) 3 [] vN vN (vS "law_curveseal_k30_lengths_and_numbers" 383) none (vR 189) vN 0 []
def o191 : Obj := oT []
def o192 : Obj := oF vN []
def o193 : Obj := oT [(vS "size" 434)]
def o194 : Obj := oT []
def o195 : Obj := oU vN "_law_length" "_law_length" (topS 35) 0 [] vN vN vN none vN vN 0 []
def o196 : Obj := oF (vT "code") [(vS "_law_length" 431), (vS "_law_length" 432), (vS "/claim/cut.py" 433), (vI (133) 0), (vI (1) 0), (vI (0) 0), (vI (0) 0), (vI (3) 0), (vR 191), (.bool true), (vI (181) 0), (vR 192), vN, (vR 193), (vR 194), (vR 195), (vI (435) 0), (vI (133) 0), (vS "/claim/cut.py" 436)]
def o197 : Obj := oU (vT "function") "_law_length" "_law_length" (topS 35) 3 [] vN vN (vS "law_curveseal_k30_lengths_and_numbers" 383) none (vR 196) vN 0 []
def o198 : Obj := oT []
def o199 : Obj := oF vN []
def o200 : Obj := oT [(vS "number" 441), (vS "content" 442), (vS "left" 443), (vS "turn" 444)]
def o201 : Obj := oT []
def o202 : Obj := oU vN "_law_form" "_law_form" (topS 36) 0 [] vN vN vN none vN vN 0 []
def o203 : Obj := oF (vT "code") [(vS "_law_form" 438), (vS "_law_form" 439), (vS "/claim/cut.py" 440), (vI (139) 0), (vI (1) 0), (vI (0) 0), (vI (0) 0), (vI (3) 0), (vR 198), (.bool true), (vI (181) 0), (vR 199), vN, (vR 200), (vR 201), (vR 202), (vI (445) 0), (vI (139) 0), (vS "/claim/cut.py" 446)]
def o204 : Obj := oU (vT "function") "_law_form" "_law_form" (topS 36) 3 [] vN vN (vS "law_curveseal_k30_lengths_and_numbers" 383) none (vR 203) vN 0 []
def o205 : Obj := oT []
def o206 : Obj := oF vN []
def o207 : Obj := oT [(vS "which" 451), (vS "data" 452), (vS "at" 453)]
def o208 : Obj := oT []
def o209 : Obj := oU vN "_law_call" "_law_call" (topS 37) 0 [] vN vN vN none vN vN 0 []
def o210 : Obj := oF (vT "code") [(vS "_law_call" 448), (vS "_law_call" 449), (vS "/claim/cut.py" 450), (vI (150) 0), (vI (3) 0), (vI (0) 0), (vI (0) 0), (vI (3) 0), (vR 205), (.bool true), (vI (181) 0), (vR 206), vN, (vR 207), (vR 208), (vR 209), (vI (454) 0), (vI (150) 0), (vS "/claim/cut.py" 455)]
def o211 : Obj := oU (vT "function") "_law_call" "_law_call" (topS 37) 3 [] vN vN (vS "law_curveseal_k30_lengths_and_numbers" 383) none (vR 210) vN 0 []
def o212 : Obj := oT []
def o213 : Obj := oF vN []
def o214 : Obj := oT [(vS "which" 460), (vS "data" 461), (vS "at" 462)]
def o215 : Obj := oT []
def o216 : Obj := oU vN "_law_told" "_law_told" (topS 38) 0 [] vN vN vN none vN vN 0 []
def o217 : Obj := oF (vT "code") [(vS "_law_told" 457), (vS "_law_told" 458), (vS "/claim/cut.py" 459), (vI (158) 0), (vI (3) 0), (vI (0) 0), (vI (0) 0), (vI (3) 0), (vR 212), (.bool true), (vI (181) 0), (vR 213), vN, (vR 214), (vR 215), (vR 216), (vI (463) 0), (vI (158) 0), (vS "/claim/cut.py" 464)]
def o218 : Obj := oU (vT "function") "_law_told" "_law_told" (topS 38) 3 [] vN vN (vS "law_curveseal_k30_lengths_and_numbers" 383) none (vR 217) vN 0 []
def o219 : Obj := oT []
def o220 : Obj := oF vN []
def o221 : Obj := oT [(vS "cell" 469)]
def o222 : Obj := oT []
def o223 : Obj := oU vN "_law_size" "_law_size" (topS 39) 0 [] vN vN vN none vN vN 0 []
def o224 : Obj := oF (vT "code") [(vS "_law_size" 466), (vS "_law_size" 467), (vS "/claim/cut.py" 468), (vI (167) 0), (vI (1) 0), (vI (0) 0), (vI (0) 0), (vI (3) 0), (vR 219), (.bool true), (vI (181) 0), (vR 220), vN, (vR 221), (vR 222), (vR 223), (vI (470) 0), (vI (167) 0), (vS "/claim/cut.py" 471)]
def o225 : Obj := oU (vT "function") "_law_size" "_law_size" (topS 39) 3 [] vN vN (vS "law_curveseal_k30_lengths_and_numbers" 383) none (vR 224) vN 0 []
def o226 : Obj := oT []
def o227 : Obj := oF vN []
def o228 : Obj := oT [(vS "data" 476), (vS "at" 477), (vS "end" 478), (vS "part" 479), (vS "size" 480)]
def o229 : Obj := oT []
def o230 : Obj := oU vN "_law_due_length" "_law_due_length" (topS 40) 0 [] vN vN vN none vN vN 0 []
def o231 : Obj := oF (vT "code") [(vS "_law_due_length" 473), (vS "_law_due_length" 474), (vS "/claim/cut.py" 475), (vI (171) 0), (vI (2) 0), (vI (0) 0), (vI (0) 0), (vI (3) 0), (vR 226), (.bool true), (vI (181) 0), (vR 227), vN, (vR 228), (vR 229), (vR 230), (vI (481) 0), (vI (171) 0), (vS "/claim/cut.py" 482)]
def o232 : Obj := oU (vT "function") "_law_due_length" "_law_due_length" (topS 40) 3 [] vN vN (vS "law_curveseal_k30_lengths_and_numbers" 383) none (vR 231) vN 0 []
def o233 : Obj := oT []
def o234 : Obj := oF vN []
def o235 : Obj := oT [(vS "cell" 487), (vS "other" 488), (vS "size" 489), (vS "before" 490), (vS "data" 491)]
def o236 : Obj := oT []
def o237 : Obj := oU vN "_law_lengths" "_law_lengths" (topS 41) 0 [] vN vN vN none vN vN 0 []
def o238 : Obj := oF (vT "code") [(vS "_law_lengths" 484), (vS "_law_lengths" 485), (vS "/claim/cut.py" 486), (vI (182) 0), (vI (2) 0), (vI (0) 0), (vI (0) 0), (vI (3) 0), (vR 233), (.bool true), (vI (181) 0), (vR 234), vN, (vR 235), (vR 236), (vR 237), (vI (492) 0), (vI (182) 0), (vS "/claim/cut.py" 493)]
def o239 : Obj := oU (vT "function") "_law_lengths" "_law_lengths" (topS 41) 3 [] vN vN (vS "law_curveseal_k30_lengths_and_numbers" 383) none (vR 238) vN 0 []
def o240 : Obj := oT []
def o241 : Obj := oF vN []
def o242 : Obj := oT [(vS "cell" 498), (vS "other" 499), (vS "number" 500)]
def o243 : Obj := oT []
def o244 : Obj := oU vN "_law_number" "_law_number" (topS 42) 0 [] vN vN vN none vN vN 0 []
def o245 : Obj := oF (vT "code") [(vS "_law_number" 495), (vS "_law_number" 496), (vS "/claim/cut.py" 497), (vI (196) 0), (vI (2) 0), (vI (0) 0), (vI (0) 0), (vI (3) 0), (vR 240), (.bool true), (vI (181) 0), (vR 241), vN, (vR 242), (vR 243), (vR 244), (vI (501) 0), (vI (196) 0), (vS "/claim/cut.py" 502)]
def o246 : Obj := oU (vT "function") "_law_number" "_law_number" (topS 42) 3 [] vN vN (vS "law_curveseal_k30_lengths_and_numbers" 383) none (vR 245) vN 0 []
def o247 : Obj := oT []
def o248 : Obj := oF vN []
def o249 : Obj := oT [(vS "form" 507), (vS "cell" 508), (vS "data" 509), (vS "at" 510)]
def o250 : Obj := oT []
def o251 : Obj := oU vN "_law_near" "_law_near" (topS 43) 0 [] vN vN vN none vN vN 0 []
def o252 : Obj := oF (vT "code") [(vS "_law_near" 504), (vS "_law_near" 505), (vS "/claim/cut.py" 506), (vI (204) 0), (vI (2) 0), (vI (0) 0), (vI (0) 0), (vI (3) 0), (vR 247), (.bool true), (vI (181) 0), (vR 248), vN, (vR 249), (vR 250), (vR 251), (vI (511) 0), (vI (204) 0), (vS "/claim/cut.py" 512)]
def o253 : Obj := oU (vT "function") "_law_near" "_law_near" (topS 43) 3 [] vN vN (vS "law_curveseal_k30_lengths_and_numbers" 383) none (vR 252) vN 0 []
def o254 : Obj := oT []
def o255 : Obj := oF vN []
def o256 : Obj := oT [(vS "script" 517), (vS "k" 518), (vS "number" 519), (vS "form" 520), (vS "back" 521), (vS "near" 522), (vS "found" 523)]
def o257 : Obj := oT []
def o258 : Obj := oU vN "law" "law" (topS 44) 0 [] vN vN vN none vN vN 0 []
def o259 : Obj := oF (vT "code") [(vS "law" 514), (vS "law" 515), (vS "/claim/cut.py" 516), (vI (216) 0), (vI (1) 0), (vI (0) 0), (vI (0) 0), (vI (3) 0), (vR 254), (.bool true), (vI (181) 0), (vR 255), vN, (vR 256), (vR 257), (vR 258), (vI (524) 0), (vI (216) 0), (vS "/claim/cut.py" 525)]
def o260 : Obj := oU (vT "function") "law" "law" (topS 44) 3 [] vN vN (vS "law_curveseal_k30_lengths_and_numbers" 383) none (vR 259) vN 0 []
def b0_0 (w : World) : List Obj := [o0 w, o1 w, o2 w, o3 w, o4, o5, o6 w, o7, o8, o9, o10]
def S_x (w : World) : SharedT := ⟨trF 16 (b0_0 w), 11, {}, #[], {}, 181, {}⟩
def b0_1 (w : World) : List Obj := [o0 w, o1 w, o2 w, o3 w, o4, o5, o6 w, o7, o8, o9, o10, o11, o12, o13, o14]
def S_s (w : World) : SharedT := ⟨trF 16 (b0_1 w), 15, {}, #[], {}, 187, {}⟩
def b0_2 (w : World) : List Obj := [o0 w, o1 w, o2 w, o3_1 w, o4, o5, o6 w, o7, o8, o9, o10, o11, o12_1, o13, o14, o15, o16, o17 w, o18, o19, o20, o21, o22, o23 w, o24, o25, o26, o27, o28, o29, o30 w, o31, o32, o33, o34, o35, o36 w, o37, o38, o39]
def b1_2 (w : World) : List Obj := [o40, o41, o42 w, o43, o44, o45, o46, o47, o48 w, o49, o50, o51, o52, o53, o54, o55, o56, o57, o58, o59, o60, o61, o62, o63, o64, o65, o66, o67, o68, o69, o70, o71, o72, o73, o74, o75, o76, o77, o78, o79]
def b2_2 (w : World) : List Obj := [o80, o81, o82, o83, o84, o85, o86, o87, o88, o89, o90, o91, o92, o93, o94, o95, o96, o97, o98, o99, o100, o101, o102, o103, o104, o105, o106, o107, o108, o109, o110, o111, o112, o113, o114, o115, o116, o117, o118, o119]
def b3_2 (w : World) : List Obj := [o120, o121, o122, o123, o124, o125, o126, o127, o128, o129, o130, o131, o132, o133, o134, o135, o136, o137, o138, o139, o140, o141, o142, o143, o144, o145, o146, o147, o148, o149, o150, o151, o152, o153, o154, o155, o156, o157, o158, o159]
def b4_2 (w : World) : List Obj := [o160, o161, o162, o163, o164, o165, o166, o167, o168, o169, o170, o171, o172, o173, o174, o175, o176, o177, o178, o179, o180, o181, o182, o183, o184, o185, o186, o187, o188, o189, o190, o191, o192, o193, o194, o195, o196, o197, o198, o199]
def b5_2 (w : World) : List Obj := [o200, o201, o202, o203, o204, o205, o206, o207, o208, o209, o210, o211, o212, o213, o214, o215, o216, o217, o218, o219, o220, o221, o222, o223, o224, o225, o226, o227, o228, o229, o230, o231, o232, o233, o234, o235, o236, o237, o238, o239]
def b6_2 (w : World) : List Obj := [o240, o241, o242, o243, o244, o245, o246, o247, o248, o249, o250, o251, o252, o253, o254, o255, o256, o257, o258, o259, o260]
def S_p0 (w : World) : SharedT := ⟨trF 16 (b0_2 w ++ (b1_2 w ++ (b2_2 w ++ (b3_2 w ++ (b4_2 w ++ (b5_2 w ++ (b6_2 w))))))), 261, {}, #[], {}, 527, {}⟩
def S_f (w : World) : SharedT := ⟨trF 16 (b0_2 w ++ (b1_2 w ++ (b2_2 w ++ (b3_2 w ++ (b4_2 w ++ (b5_2 w ++ (b6_2 w))))))), 261, {}, #[], {}, 527, {}⟩
abbrev annP : Option Value := (some (vR 6))
def envP : Env := envT Rw.prog (vR 13) 14
def codP : Code := .body (behindTheImports Rw.prog) envP
abbrev stkP : List Frame := frT1 (.builtin "claim.caller" {}) ⟨0, 0, 0, 0⟩
def cutP (a b : Nat) : List Stmt := ((behindTheImports Rw.prog).drop a).take (b - a)
def L_x (w : World) : List Obj := [o0 w, o1 w, o2 w, o3 w, o4, o5, o6 w, o7, o8, o9, o10]
theorem op_ (w : World) : openQ w 20000000 Rw.prog = some (L_x w, (S_x w).life, (S_x w).gens, (S_x w).drawn, (S_x w).toks, (S_x w).os) := by
  kernel_rfl
theorem xl_ (w : World) : (S_x w).abs.heap.objs.toList = L_x w := by
  kernel_rfl
theorem xg_ (w : World) : ((S_x w).abs.heap.isNs mainGlobals && (S_x w).abs.gens.size == 0) = true := by
  kernel_rfl
theorem xn_ (w : World) : (S_x w).abs.heap.objs.size = 11 := by
  kernel_rfl
theorem xa_ (w : World) : (S_x w).abs.heap.nsMap mainGlobals "__annotations__" = annP := by
  kernel_rfl
theorem st_ (w : World) : startB (stQ Rw.prog w) 11 annP Rw.prog (S_x w) = some (S_s w, (vR 13), 14, .builtin "claim.caller" {}, ⟨0, 0, 0, 0⟩, codP, ⟨0, 0, 0, 0⟩) := by
  kernel_rfl
theorem pc_p0_f (w : World) : sgRun (stQ Rw.prog (w.withFollow "special-get-raises" false)) 11 annP stkP.length 40000 (S_s (w.withFollow "special-get-raises" false)) ⟨(execs (cutP 0 45) envP).wrap (fun f => .pure (.done (id f))) deadEnd id id, codP, ⟨0, 0, 0, 0⟩, stkP⟩ = some (.next, S_p0 (w.withFollow "special-get-raises" false), codP, ⟨216, 0, 235, 128⟩) := by
  kernel_rfl
theorem pc_p0_t (w : World) : sgRun (stQ Rw.prog (w.withFollow "special-get-raises" true)) 11 annP stkP.length 40000 (S_s (w.withFollow "special-get-raises" true)) ⟨(execs (cutP 0 45) envP).wrap (fun f => .pure (.done (id f))) deadEnd id id, codP, ⟨0, 0, 0, 0⟩, stkP⟩ = some (.next, S_p0 (w.withFollow "special-get-raises" true), codP, ⟨216, 0, 235, 128⟩) := by
  kernel_rfl
theorem pc_p0 (w : World) : sgRun (stQ Rw.prog w) 11 annP stkP.length 40000 (S_s w) ⟨(execs (cutP 0 45) envP).wrap (fun f => .pure (.done (id f))) deadEnd id id, codP, ⟨0, 0, 0, 0⟩, stkP⟩ = some (.next, S_p0 w, codP, ⟨216, 0, 235, 128⟩) := PySem.W.byRow2 (P := fun w => sgRun (stQ Rw.prog w) 11 annP stkP.length 40000 (S_s w) ⟨(execs (cutP 0 45) envP).wrap (fun f => .pure (.done (id f))) deadEnd id id, codP, ⟨0, 0, 0, 0⟩, stkP⟩ = some (.next, S_p0 w, codP, ⟨216, 0, 235, 128⟩)) "special-get-raises" pc_p0_f pc_p0_t w
theorem fin_ (w : World) : goF (stQ Rw.prog w) 11 annP 40000 (S_p0 w) ⟨(execs [] envP).wrap doneF (leaveH envP) id id, codP, ⟨216, 0, 235, 128⟩, stkP⟩ = some (S_f w) := by
  kernel_rfl
theorem body_ : behindTheImports Rw.prog = (cutP 0 45 ++ []) := by
  kernel_rfl
theorem runp_ (w : World) : RunP Rw.prog w 11 annP envP stkP (cutP 0 45 ++ []) (S_s w) codP ⟨0, 0, 0, 0⟩ (40000 + (40000)) (S_f w) :=
  runP_app rfl (pc_p0 w) (runP_nil (fin_ w))
theorem runw_ (w : World) : RunW Rw.prog w 20000000 (fuelT + (fuelT + (1 + (fuelT + (40000 + (40000)))))) (S_x w) (S_f w) := runW_of (op_ w) (xl_ w) (xg_ w) (xn_ w) (xa_ w) (st_ w) (body_ ▸ runp_ w)
theorem lk1_ (w : World) : HandSHeadRun.looksF Rw.prog (S_x w).abs.heap (S_f w).abs = true := by
  kernel_rfl
theorem lk2_ (w : World) : HandSHeadRun.seenQ (PySem.W.view Rw.prog [44]) ((["is_whole", "to_little", "to_big", "from_big", "is_bytes", "write_length", "read_length", "write_number", "_number_content", "_part", "_only_part", "_split_parts", "_number", "_part_count", "read_tree", "_tree_value", "_law_cell", "_law_twice", "_law_bytes", "_law_integer", "_law_is_list", "_law_length", "_law_form", "_law_call", "_law_told"] : List Str) ++ (["_law_size", "_law_due_length", "_law_lengths", "_law_number", "_law_near", "CurveError", "OutOfRange", "Malformed", "NUMBER_TAG", "SEQUENCE_TAG", "LONGEST_CONTENT", "MOST_BITS", "LONGEST_NUMBER", "MOST_LEVELS", "MOST_PARTS"] : List Str)) (importedModules Rw.prog.main.body) (fun s => xlAt (PySem.W.view Rw.prog [44]) [] s && recOk Rw.toRowW.records s) (S_f w).abs = PySem.W.openGood (PySem.W.view Rw.prog [44]) ((["is_whole", "to_little", "to_big", "from_big", "is_bytes", "write_length", "read_length", "write_number", "_number_content", "_part", "_only_part", "_split_parts", "_number", "_part_count", "read_tree", "_tree_value", "_law_cell", "_law_twice", "_law_bytes", "_law_integer", "_law_is_list", "_law_length", "_law_form", "_law_call", "_law_told"] : List Str) ++ (["_law_size", "_law_due_length", "_law_lengths", "_law_number", "_law_near", "CurveError", "OutOfRange", "Malformed", "NUMBER_TAG", "SEQUENCE_TAG", "LONGEST_CONTENT", "MOST_BITS", "LONGEST_NUMBER", "MOST_LEVELS", "MOST_PARTS"] : List Str)) := by
  kernel_rfl
theorem lk3_ (w : World) : ob (S_f w) = hk.val w := by
  kernel_rfl
abbrev fuelQ : Nat := fuelT + (fuelT + (1 + (fuelT + (40000 + (40000)))))
end
abbrev FnP (K : PySem.W.Frag) (x q : Str) (st : Stmt) (f : Addr) (fd : FuncData) : Prop := FunD K x q (defArgs st) (defBody st) (defScope st) [] [] f fd
abbrev FnPk (kws : List (Str × V)) (K : PySem.W.Frag) (x q : Str) (st : Stmt) (f : Addr) (fd : FuncData) : Prop := FunD K x q (defArgs st) (defBody st) (defScope st) [] kws f fd
structure Facts (P : Program) (w : World) (K : PySem.W.Frag) (mg : Str → Option Value) : Prop where
  d_is_whole : ∃ fd, FnP K "is_whole" "is_whole" s_is_whole (He.ga K "is_whole") fd
  g_is_whole : mg "is_whole" = some (.ref (He.ga K "is_whole"))
  d_to_little : ∃ fd, FnP K "to_little" "to_little" s_to_little (He.ga K "to_little") fd
  g_to_little : mg "to_little" = some (.ref (He.ga K "to_little"))
  d_to_big : ∃ fd, FnP K "to_big" "to_big" s_to_big (He.ga K "to_big") fd
  g_to_big : mg "to_big" = some (.ref (He.ga K "to_big"))
  d_from_big : ∃ fd, FnP K "from_big" "from_big" s_from_big (He.ga K "from_big") fd
  g_from_big : mg "from_big" = some (.ref (He.ga K "from_big"))
  d_is_bytes : ∃ fd, FnP K "is_bytes" "is_bytes" s_is_bytes (He.ga K "is_bytes") fd
  g_is_bytes : mg "is_bytes" = some (.ref (He.ga K "is_bytes"))
  d_write_length : ∃ fd, FnP K "write_length" "write_length" s_write_length (He.ga K "write_length") fd
  g_write_length : mg "write_length" = some (.ref (He.ga K "write_length"))
  d_read_length : ∃ fd, FnP K "read_length" "read_length" s_read_length (He.ga K "read_length") fd
  g_read_length : mg "read_length" = some (.ref (He.ga K "read_length"))
  d_write_number : ∃ fd, FnP K "write_number" "write_number" s_write_number (He.ga K "write_number") fd
  g_write_number : mg "write_number" = some (.ref (He.ga K "write_number"))
  d_u_number_content : ∃ fd, FnP K "_number_content" "_number_content" s_u_number_content (He.ga K "_number_content") fd
  g_u_number_content : mg "_number_content" = some (.ref (He.ga K "_number_content"))
  d_u_part : ∃ fd, FnP K "_part" "_part" s_u_part (He.ga K "_part") fd
  g_u_part : mg "_part" = some (.ref (He.ga K "_part"))
  d_u_only_part : ∃ fd, FnP K "_only_part" "_only_part" s_u_only_part (He.ga K "_only_part") fd
  g_u_only_part : mg "_only_part" = some (.ref (He.ga K "_only_part"))
  d_u_split_parts : ∃ fd, FnP K "_split_parts" "_split_parts" s_u_split_parts (He.ga K "_split_parts") fd
  g_u_split_parts : mg "_split_parts" = some (.ref (He.ga K "_split_parts"))
  d_u_number : ∃ fd, FnP K "_number" "_number" s_u_number (He.ga K "_number") fd
  g_u_number : mg "_number" = some (.ref (He.ga K "_number"))
  d_u_part_count : ∃ fd, FnP K "_part_count" "_part_count" s_u_part_count (He.ga K "_part_count") fd
  g_u_part_count : mg "_part_count" = some (.ref (He.ga K "_part_count"))
  d_read_tree : ∃ fd, FnP K "read_tree" "read_tree" s_read_tree (He.ga K "read_tree") fd
  g_read_tree : mg "read_tree" = some (.ref (He.ga K "read_tree"))
  d_u_tree_value : ∃ fd, FnP K "_tree_value" "_tree_value" s_u_tree_value (He.ga K "_tree_value") fd
  g_u_tree_value : mg "_tree_value" = some (.ref (He.ga K "_tree_value"))
  d_u_law_cell : ∃ fd, FnP K "_law_cell" "_law_cell" s_u_law_cell (He.ga K "_law_cell") fd
  g_u_law_cell : mg "_law_cell" = some (.ref (He.ga K "_law_cell"))
  d_u_law_twice : ∃ fd, FnP K "_law_twice" "_law_twice" s_u_law_twice (He.ga K "_law_twice") fd
  g_u_law_twice : mg "_law_twice" = some (.ref (He.ga K "_law_twice"))
  d_u_law_bytes : ∃ fd, FnP K "_law_bytes" "_law_bytes" s_u_law_bytes (He.ga K "_law_bytes") fd
  g_u_law_bytes : mg "_law_bytes" = some (.ref (He.ga K "_law_bytes"))
  d_u_law_integer : ∃ fd, FnP K "_law_integer" "_law_integer" s_u_law_integer (He.ga K "_law_integer") fd
  g_u_law_integer : mg "_law_integer" = some (.ref (He.ga K "_law_integer"))
  d_u_law_is_list : ∃ fd, FnP K "_law_is_list" "_law_is_list" s_u_law_is_list (He.ga K "_law_is_list") fd
  g_u_law_is_list : mg "_law_is_list" = some (.ref (He.ga K "_law_is_list"))
  d_u_law_length : ∃ fd, FnP K "_law_length" "_law_length" s_u_law_length (He.ga K "_law_length") fd
  g_u_law_length : mg "_law_length" = some (.ref (He.ga K "_law_length"))
  d_u_law_form : ∃ fd, FnP K "_law_form" "_law_form" s_u_law_form (He.ga K "_law_form") fd
  g_u_law_form : mg "_law_form" = some (.ref (He.ga K "_law_form"))
  d_u_law_call : ∃ fd, FnP K "_law_call" "_law_call" s_u_law_call (He.ga K "_law_call") fd
  g_u_law_call : mg "_law_call" = some (.ref (He.ga K "_law_call"))
  d_u_law_told : ∃ fd, FnP K "_law_told" "_law_told" s_u_law_told (He.ga K "_law_told") fd
  g_u_law_told : mg "_law_told" = some (.ref (He.ga K "_law_told"))
  d_u_law_size : ∃ fd, FnP K "_law_size" "_law_size" s_u_law_size (He.ga K "_law_size") fd
  g_u_law_size : mg "_law_size" = some (.ref (He.ga K "_law_size"))
  d_u_law_due_length : ∃ fd, FnP K "_law_due_length" "_law_due_length" s_u_law_due_length (He.ga K "_law_due_length") fd
  g_u_law_due_length : mg "_law_due_length" = some (.ref (He.ga K "_law_due_length"))
  d_u_law_lengths : ∃ fd, FnP K "_law_lengths" "_law_lengths" s_u_law_lengths (He.ga K "_law_lengths") fd
  g_u_law_lengths : mg "_law_lengths" = some (.ref (He.ga K "_law_lengths"))
  d_u_law_number : ∃ fd, FnP K "_law_number" "_law_number" s_u_law_number (He.ga K "_law_number") fd
  g_u_law_number : mg "_law_number" = some (.ref (He.ga K "_law_number"))
  d_u_law_near : ∃ fd, FnP K "_law_near" "_law_near" s_u_law_near (He.ga K "_law_near") fd
  g_u_law_near : mg "_law_near" = some (.ref (He.ga K "_law_near"))
  d_law : ∃ fd, FnP K "law" "law" s_law (He.ga K "law") fd
  g_law : mg "law" = some (.ref (He.ga K "law"))
  g_CurveError : mg "CurveError" = some (.ref (He.ga K "CurveError"))
  g_OutOfRange : mg "OutOfRange" = some (.ref (He.ga K "OutOfRange"))
  g_Malformed : mg "Malformed" = some (.ref (He.ga K "Malformed"))
  x_Malformed : PySem.W.excIn K (He.ga K "Malformed") He.veBase "ValueError.__new__" = true
  k_Malformed : PySem.W.keepIn K (.ref (He.ga K "Malformed")) = true
  b_Malformed : PySem.W.subIn K (.ref (He.ga K "Malformed")) (.type "BaseException") = some true
  t_Malformed : PySem.W.typeIn K (.ref (He.ga K "Malformed")) = some (.type "type")
  x_OutOfRange : PySem.W.excIn K (He.ga K "OutOfRange") He.veBase "ValueError.__new__" = true
  k_OutOfRange : PySem.W.keepIn K (.ref (He.ga K "OutOfRange")) = true
  b_OutOfRange : PySem.W.subIn K (.ref (He.ga K "OutOfRange")) (.type "BaseException") = some true
  t_OutOfRange : PySem.W.typeIn K (.ref (He.ga K "OutOfRange")) = some (.type "type")
  n_abs : mg "abs" = none
  n_all : mg "all" = none
  n_bool : mg "bool" = none
  n_int : mg "int" = none
  n_isinstance : mg "isinstance" = none
  n_len : mg "len" = none
  n_list : mg "list" = none
  n_max : mg "max" = none
  n_min : mg "min" = none
  n_range : mg "range" = none
  n_sum : mg "sum" = none
  n_tuple : mg "tuple" = none
  n_zip : mg "zip" = none
  c_NUMBER_TAG : ∃ t, mg "NUMBER_TAG" = some (.int 2 t)
  c_SEQUENCE_TAG : ∃ t, mg "SEQUENCE_TAG" = some (.int 48 t)
  c_LONGEST_CONTENT : ∃ t, mg "LONGEST_CONTENT" = some (.int 65535 t)
  c_MOST_BITS : ∃ t, mg "MOST_BITS" = some (.int 520 t)
  c_LONGEST_NUMBER : ∃ t, mg "LONGEST_NUMBER" = some (.int 66 t)
  c_MOST_LEVELS : ∃ t, mg "MOST_LEVELS" = some (.int 8 t)
  c_MOST_PARTS : ∃ t, mg "MOST_PARTS" = some (.int 64 t)
  cls : Cls K errs subE
noncomputable def m_is_whole (value_ : D) : Res Bool :=
  (Res.need ((toD value_).plain = true) (Res.ok (isI "int" (toD value_)))).bind fun b2 => cond b2 ((Res.need ((toD value_).plain = true) (Res.ok (isI "bool" (toD value_)))).bind fun (t1 : Bool) => Res.ok (!t1)) (Res.ok false)
theorem ok_is_whole {P : Program} {w : World} {K : PySem.W.Frag} {mg : Str → Option Value} {base : Heap} (T : Facts P w K mg) {fd : FuncData} (F : FnP K "is_whole" "is_whole" s_is_whole (He.ga K "is_whole") fd) :
    FnOk P w K mg base (L2.CX P w) 1 (He.ga K "is_whole") fd ["value"] (spM K (fun (p : D × Unit) => m_is_whole p.1)) := by
  refine fn_ok F sc_is_whole (fun y => rfl) (fun cdv A outer s H E hr => ?_)
  refine ⟨_, (pss_one (ps_ret (pe_and (pe_callB call_isi (by rfl) T.n_isinstance (by decide +kernel) (pa_cons (pv 0) (pa_cons (pe_bltn (v := .ty "int") (by rfl) T.n_int (by decide +kernel) rfl) pa_nil))) (pe_one (pe_not (pe_callB call_isi (by rfl) T.n_isinstance (by decide +kernel) (pa_cons (pv 0) (pa_cons (pe_bltn (v := .ty "bool") (by rfl) T.n_bool (by decide +kernel) rfl) pa_nil)))))))), ?_⟩
  rintro ⟨value_, ⟨⟩⟩ F0 H0 Q KP L
  show Blk K F0 H0 KP _ [iM value_] (m_is_whole value_)
  unfold m_is_whole
  have hr_ := ((ev_andV (ev_isi isi_int (ev_var (i := 0) (x := value_) rfl)) (ev_notV (ev_isi isi_bool (ev_var (i := 0) (x := value_) rfl)))) : EvX K (W0 E) [iM value_] _ _)
  exact blk_ret L trivial (by exact hr_)
noncomputable def m_to_little (number_ : Int) (size_ : Int) : Res (List Int) :=
  (cond (decide (number_ < (0 : Int))) (Res.ok true) ((Res.ok (decide (((8 : Int) * size_) < ((Builtin.Int.intBits number_ : Nat) : Int)))))).bind fun b => cond b   (((((Res.ok size_)).bind fun (t3 : Int) => Res.need (Nat.log2 (Int.natAbs t3) < 1920 ∧ (toString t3 : Str).length ≤ 1000) (Res.ok ()))).bind fun (_ : Unit) => Res.exc "OutOfRange")   ((Res.need (okRange size_) (Res.ok (pyRange 0 size_))).bind fun (xs6 : List Int) => Res.need (xs6.length ≤ 16777216) (compL (fun (x4 : Int) => Res.ok true) (fun (x4 : Int) => (Res.need (0 ≤ ((8 : Int) * x4)) (Res.ok (number_ / 2 ^ ((8 : Int) * x4).toNat))).bind fun (t5 : Int) => Res.ok (Builtin.bitAnd t5 (255 : Int))) xs6))
theorem ok_to_little {P : Program} {w : World} {K : PySem.W.Frag} {mg : Str → Option Value} {base : Heap} (T : Facts P w K mg) {fd : FuncData} (F : FnP K "to_little" "to_little" s_to_little (He.ga K "to_little") fd) :
    FnOk P w K mg base (L2.CX P w) 1 (He.ga K "to_little") fd ["number", "size"] (spM K (fun (p : Int × Int × Unit) => m_to_little p.1 p.2.1)) := by
  refine fn_ok F sc_to_little (fun y => rfl) (fun cdv A outer s H E hr => ?_)
  refine ⟨_, (pss_cons (ps_if (PW.pt (pw_or (pt_cmpR op_lt (pv 0) pe_int (nomark _)) (pw_or1 (pt_cmpR op_gt (pe_bits (pv 0)) (pe_op op_mul pe_int (pv 1)) (nomark _))))) (pss_one (ps_raise rfl (takes_of rfl rfl rfl rfl) (SkE.pmk_own1 PySem.F.excBase_ValueError T.x_OutOfRange T.g_OutOfRange T.k_OutOfRange (raises_own T.b_OutOfRange T.t_OutOfRange) rfl (pe_joined (PJ.cons pe_str (PJ.cons (pe_fmt (pv 1)) (PJ.cons pe_str PJ.nil))))))) pss_nil) (pss_one (ps_ret (pe_lc (own := [("at", 2)]) rfl sc_to_little.nd (pi_range1 rfl T.n_range (pa_cons (pv 1) pa_nil)) (blkOk_by (own := [("at", 2)]) (N := ["number", "size", "at"]) (sc := defScope s_to_little) (by decide +kernel)) (fun _ _ _ _ _ => (pg_name (i := 2) sc_to_little.nd rfl (Or.inl rfl))) (fun _ _ _ _ _ => pts_nil) (fun _ _ _ _ _ => (pe_op op_and (pe_op op_shr (pv 0) (pe_op op_mul pe_int (pv 2))) pe_int)))))), ?_⟩
  rintro ⟨number_, size_, ⟨⟩⟩ F0 H0 Q KP L
  show Blk K F0 H0 KP _ [iM number_, iM size_, none] (m_to_little number_ size_)
  unfold m_to_little
  have ht_ := ((et_or (et_test (ev_op (opx_B0 (g := fun i j => decide (i < j))) mild_ok (ev_var (i := 0) (x := number_) rfl) (ev_int (i := 0)))) (et_test (ev_op (opx_B0 (g := fun i j => decide (j < i))) mild_ok (ev_bits (ev_var (i := 0) (x := number_) rfl)) (ev_opI (C := CMul) (g := fun i j => i * j) (fun x y h _ => by cases h; exact .inl (by decide)) (ev_int (i := 8)) (ev_var (i := 1) (x := size_) rfl))))) : EvT K (W0 E) [iM number_, iM size_, none] _ _)
  refine blk_seq (blk_if2 L trivial (by exact ht_) ?_ ?_)
  · exact blk_raiseJ L trivial (by rw [sizeLine_eq]; decide) ((ej_txt (n := 29) (x := "the number does not fit into ") (by decide) (ej_int (ev_var (i := 1) (x := size_) rfl) (ej_txt (n := 6) (x := " bytes") (by decide) ej_nil))) : EvJ K (W0 E) [iM number_, iM size_, none] _ _ _)
  · refine blk_nil ?_
    try refine Blk.nx ?_
    have hr_ := ((ev_ofN (ev_comp (tst := fun (x4 : Int) => Res.ok true) (el := fun (x4 : Int) => (Res.need (0 ≤ ((8 : Int) * x4)) (Res.ok (number_ / 2 ^ ((8 : Int) * x4).toNat))).bind fun (t5 : Int) => Res.ok (Builtin.bitAnd t5 (255 : Int))) (ws := [2]) (ei_range1 (ev_var (i := 1) (x := size_) rfl)) (fun _ => gx_name) (fun x4 => et_yes) (fun x4 => ((ev_op (opx_I0 (g := Builtin.bitAnd)) mild_ok (ev_op (opx_I (C := (fun _ j => 0 ≤ j)) (g := fun i j => i / 2 ^ j.toNat)) mild_need (ev_var (i := 0) (x := number_) rfl) (ev_opI (C := CMul) (g := fun i j => i * j) (fun x y h _ => by cases h; exact .inl (by decide)) (ev_int (i := 8)) (ev_var (i := 2) (x := x4) rfl))) (ev_int (i := 255))) : EvX K WT [iM number_, iM size_, iM x4] _ _)))) : EvX K (W0 E) [iM number_, iM size_, none] _ _)
    exact blk_ret L trivial (by exact hr_)
noncomputable def m_to_big (number_ : Int) (size_ : Int) : Res (List Int) :=
  (m_to_little number_ size_).bind fun (t7 : (List Int)) => Res.ok (List.reverse t7)
theorem ok_to_big {P : Program} {w : World} {K : PySem.W.Frag} {mg : Str → Option Value} {base : Heap} (T : Facts P w K mg) {fd : FuncData} (F : FnP K "to_big" "to_big" s_to_big (He.ga K "to_big") fd) :
    FnOk P w K mg base (L2.CX P w) 2 (He.ga K "to_big") fd ["number", "size"] (spM K (fun (p : Int × Int × Unit) => m_to_big p.1 p.2.1)) := by
  obtain ⟨fd_to_little, F_to_little⟩ := T.d_to_little
  have G_to_little := ok_to_little (P := P) (w := w) (base := base) T F_to_little
  have b_to_little : Binds K fd_to_little ["number", "size"] [] := F_to_little.bindsN fun _ _ _ _ _ _ us hl => match us, hl with | [_, _], _ => rfl
  refine fn_ok F sc_to_big (fun y => rfl) (fun cdv A outer s H E hr => ?_)
  refine ⟨_, (pss_one (ps_ret (pe_revL (pe_callS G_to_little (hr.mono (by decide)) rfl T.g_to_little F_to_little.kp b_to_little (fun σ => passAt (takes_of rfl rfl rfl rfl) σ) (pa_cons (pv 0) (pa_cons (pv 1) pa_nil)))))), ?_⟩
  rintro ⟨number_, size_, ⟨⟩⟩ F0 H0 Q KP L
  show Blk K F0 H0 KP _ [iM number_, iM size_] (m_to_big number_ size_)
  unfold m_to_big
  have hr_ := ((ev_ofN (en_rev (ev_call (f := (fun (p : Int × Int × Unit) => m_to_little p.1 p.2.1)) (ea_cons (ev_var (i := 0) (x := number_) rfl) (ea_cons (ev_var (i := 1) (x := size_) rfl) ea_nil))))) : EvX K (W0 E) [iM number_, iM size_] _ _)
  exact blk_ret L trivial (by exact hr_)
noncomputable def m_from_big_l1 (k1 : Int → Res Int) : List Int → Int → Res Int
  | [], s => k1 s
  | x8 :: r1, number_ =>   (fun (byte_ : Int) => ((Res.need (CShl number_ (8 : Int)) (Res.ok (number_ * 2 ^ (8 : Int).toNat))).bind fun (t9 : Int) => Res.ok (Builtin.bitOr t9 byte_)).bind fun (number_ : Int) =>   m_from_big_l1 k1 r1 number_) x8
noncomputable def m_from_big_k2 : Int → Res Int := fun number_ =>   (Res.ok number_)
noncomputable def m_from_big (data_ : (List Int)) : Res Int :=
  ((Res.ok (0 : Int))).bind fun (number_ : Int) =>   ((Res.ok data_)).bind fun (xs10 : List Int) => m_from_big_l1 (m_from_big_k2) xs10 number_
theorem ok_from_big {P : Program} {w : World} {K : PySem.W.Frag} {mg : Str → Option Value} {base : Heap} (T : Facts P w K mg) {fd : FuncData} (F : FnP K "from_big" "from_big" s_from_big (He.ga K "from_big") fd) :
    FnOk P w K mg base (L2.CX P w) 1 (He.ga K "from_big") fd ["data"] (spM K (fun (p : (List Int) × Unit) => m_from_big p.1)) := by
  refine fn_ok F sc_from_big (fun y => rfl) (fun cdv A outer s H E hr => ?_)
  refine ⟨_, (pss_cons (ps_set (i := 1) sc_from_big.nd rfl (Or.inl rfl) pe_int) (pss_cons (ps_for (passes_of rfl) rfl (pi_list (pv 0)) (pg_name (i := 2) sc_from_big.nd rfl (Or.inl rfl)) (pss_one (ps_set (i := 1) sc_from_big.nd rfl (Or.inl rfl) (pe_op op_or (pe_op op_shlW (pv 1) pe_int) (pv 2))))) (pss_one (ps_ret (pv 1))))), ?_⟩
  rintro ⟨data_, ⟨⟩⟩ F0 H0 Q KP L
  show Blk K F0 H0 KP _ [iM data_, none, none] (m_from_big data_)
  unfold m_from_big
  have hs_ := ((ev_int (i := 0)) : EvX K (W0 E) [iM data_, none, none] _ _)
  refine blk_seq (blk_set (i := 1) L trivial (by exact hs_) fun number_ => ?_)
  show Blk _ _ _ _ _ [iM data_, iM number_, none] _
  try refine Blk.nx ?_
  have hi_ := ((ei_list (ev_var (i := 0) (x := data_) rfl)) : EvI K (W0 E) [iM data_, iM number_, none] _ _)
  refine blk_seq (blk_for (S := Int) (m_from_big_l1 (m_from_big_k2)) (m_from_big_k2) (fun number_ => [iM data_, iM number_, none]) number_ L trivial (by exact hi_) (fun _ => gx_name) (.same (.same (.same .nil))) (fun _ => rfl) ?_ ?_)
  · intro F1 L1 hB1 x8 r1 s_ N_ hN1
    revert s_; intro number_
    show Blk _ _ _ _ _ [iM data_, iM number_, iM x8] (m_from_big_l1 (m_from_big_k2) (x8 :: r1) number_)
    rw [m_from_big_l1]
    show Blk _ _ _ _ _ _ ((fun (byte_ : Int) => _) x8)
    generalize x8 = byte_
    show Blk _ _ _ _ _ [iM data_, iM number_, iM byte_] _
    have hs_ := ((ev_op (opx_I0 (g := Builtin.bitOr)) mild_ok (ev_op (opx_I (C := CShl) (g := fun i j => i * 2 ^ j.toNat)) mild_need (ev_var (i := 1) (x := number_) rfl) (ev_int (i := 8))) (ev_var (i := 2) (x := byte_) rfl)) : EvX K (W0 E) [iM data_, iM number_, iM byte_] _ _)
    refine blk_set (i := 1) L1 trivial (by exact hs_) fun number_ => ?_
    show Blk _ _ _ _ _ [iM data_, iM number_, iM byte_] _
    try refine Blk.nx ?_
    exact (hN1 number_).weak (.same (.same (.drop .nil)))
  · intro number_
    show Blk _ _ _ _ _ [iM data_, iM number_, none] ((m_from_big_k2) number_)
    unfold m_from_big_k2
    try refine Blk.nx ?_
    have hr_ := ((ev_var (i := 1) (x := number_) rfl) : EvX K (W0 E) [iM data_, iM number_, none] _ _)
    exact blk_ret L trivial (by exact hr_)
noncomputable def m_is_bytes (value_ : D) : Res Bool :=
  (Res.need ((toD value_).plain = true) (Res.ok (isI "list" (toD value_)))).bind fun b18 => cond b18 ((((((Res.ok value_)).bind D.asList).bind fun (xs14 : List D) => Res.need (xs14.length ≤ 16777216) (compL (fun (x11 : D) => Res.ok true) (fun (x11 : D) => ((m_is_whole x11).noexc).bind fun b13 => cond b13 ((((Res.ok x11)).bind D.asInt).bind fun (t12 : Int) => cond (decide ((0 : Int) ≤ t12)) (Res.ok (decide (t12 ≤ (255 : Int)))) (Res.ok false)) (Res.ok false)) xs14)).bind fun a15 => Res.ok (a15, ())).bind fun p17 => Res.ok ((p17.1).all id)) (Res.ok false)
theorem ok_is_bytes {P : Program} {w : World} {K : PySem.W.Frag} {mg : Str → Option Value} {base : Heap} (T : Facts P w K mg) {fd : FuncData} (F : FnP K "is_bytes" "is_bytes" s_is_bytes (He.ga K "is_bytes") fd) :
    FnOk P w K mg base (L2.CX P w) 2 (He.ga K "is_bytes") fd ["value"] (spM K (fun (p : D × Unit) => m_is_bytes p.1)) := by
  obtain ⟨fd_is_whole, F_is_whole⟩ := T.d_is_whole
  have G_is_whole := ok_is_whole (P := P) (w := w) (base := base) T F_is_whole
  have b_is_whole : Binds K fd_is_whole ["value"] [] := F_is_whole.bindsN fun _ _ _ _ _ _ us hl => match us, hl with | [_], _ => rfl
  refine fn_ok F sc_is_bytes (fun y => rfl) (fun cdv A outer s H E hr => ?_)
  refine ⟨_, (pss_one (ps_ret (pe_and (pe_callB call_isi (by rfl) T.n_isinstance (by decide +kernel) (pa_cons (pv 0) (pa_cons (pe_bltn (v := .ty "list") (by rfl) T.n_list (by decide +kernel) rfl) pa_nil))) (pe_one (pe_callB (cr_all rfl) (by rfl) T.n_all (by decide +kernel) (pa_cons (pe_lc (own := [("item", 1)]) rfl sc_is_bytes.nd (pi_list (pv 0)) (blkOk_by (own := [("item", 1)]) (N := ["value", "item"]) (sc := defScope s_is_bytes) (by decide +kernel)) (fun _ _ _ _ _ => (pg_name (i := 1) sc_is_bytes.nd rfl (Or.inl rfl))) (fun _ _ _ _ _ => pts_nil) (fun _ _ _ _ _ => (pe_and (pe_call G_is_whole (hr.mono (by decide)) rfl T.g_is_whole F_is_whole.kp b_is_whole .nil passL (pa_cons (pv 1) pa_nil)) (pe_one (pe_chain op_le op_le pe_int (pv 1) pe_int))))) pa_nil)))))), ?_⟩
  rintro ⟨value_, ⟨⟩⟩ F0 H0 Q KP L
  show Blk K F0 H0 KP _ [iM value_, none] (m_is_bytes value_)
  unfold m_is_bytes
  have hr_ := ((ev_andV (ev_isi isi_list (ev_var (i := 0) (x := value_) rfl)) (ev_cb cx_all (fun _ _ h => nomatch h) (ea_cons (ev_ofN (ev_comp (tst := fun (x11 : D) => Res.ok true) (el := fun (x11 : D) => ((m_is_whole x11).noexc).bind fun b13 => cond b13 ((((Res.ok x11)).bind D.asInt).bind fun (t12 : Int) => cond (decide ((0 : Int) ≤ t12)) (Res.ok (decide (t12 ≤ (255 : Int)))) (Res.ok false)) (Res.ok false)) (ws := [1]) (ei_list (ev_cast (f := D.asList) asList_ok asList_x (ev_var (i := 0) (x := value_) rfl))) (fun _ => gx_name) (fun x11 => et_yes) (fun x11 => ((ev_andV (ev_call0 (f := (fun (p : D × Unit) => m_is_whole p.1)) (ea_cons (ev_var (i := 1) (x := x11) rfl) ea_nil)) (ev_chain (opx_B0 (g := fun i j => decide (i ≤ j))) mild_ok (opx_B0 (g := fun i j => decide (i ≤ j))) mild_ok (ev_int (i := 0)) (ev_cast (f := D.asInt) asInt_ok asInt_x (ev_var (i := 1) (x := x11) rfl)) (ev_int (i := 255)))) : EvX K WT [iM value_, iM x11] _ _)))) ea_nil))) : EvX K (W0 E) [iM value_, none] _ _)
  exact blk_ret L trivial (by exact hr_)
noncomputable def m_write_length (size_ : Int) : Res (List Int) :=
  (cond (decide (size_ < (0 : Int))) (Res.ok true) ((Res.ok (decide ((65535 : Int) < size_))))).bind fun b => cond b   (Res.exc "OutOfRange")   (((Res.ok (decide (size_ < (128 : Int))))).bind fun b => cond b   ((Res.ok ([size_] : List Int)))   (((Res.ok (decide (size_ < (256 : Int))))).bind fun b => cond b   ((Res.ok ([(129 : Int), size_] : List Int)))   ((m_to_big size_ (2 : Int)).bind fun (t19 : (List Int)) => Res.need (([(130 : Int)] : List Int).length + t19.length ≤ 16777216) (Res.ok (([(130 : Int)] : List Int) ++ t19)))))
theorem ok_write_length {P : Program} {w : World} {K : PySem.W.Frag} {mg : Str → Option Value} {base : Heap} (T : Facts P w K mg) {fd : FuncData} (F : FnP K "write_length" "write_length" s_write_length (He.ga K "write_length") fd) :
    FnOk P w K mg base (L2.CX P w) 3 (He.ga K "write_length") fd ["size"] (spM K (fun (p : Int × Unit) => m_write_length p.1)) := by
  obtain ⟨fd_to_big, F_to_big⟩ := T.d_to_big
  have G_to_big := ok_to_big (P := P) (w := w) (base := base) T F_to_big
  have b_to_big : Binds K fd_to_big ["number", "size"] [] := F_to_big.bindsN fun _ _ _ _ _ _ us hl => match us, hl with | [_, _], _ => rfl
  refine fn_ok F sc_write_length (fun y => rfl) (fun cdv A outer s H E hr => ?_)
  refine ⟨_, (pss_cons (ps_if (PW.pt (pw_or (pt_cmpR op_lt (pv 0) pe_int (nomark _)) (pw_or1 (pt_cmpR op_gt (pv 0) (pe_glob (v := .int 65535) rfl T.c_LONGEST_CONTENT.choose_spec ⟨_, rfl⟩) (nomark _))))) (pss_one (ps_raise rfl (takes_of rfl rfl rfl rfl) (pmk_own PySem.F.excBase_ValueError T.x_OutOfRange T.g_OutOfRange T.k_OutOfRange (raises_own T.b_OutOfRange T.t_OutOfRange) rfl))) pss_nil) (pss_cons (ps_if (pt_cmpR op_lt (pv 0) pe_int (nomark _)) (pss_one (ps_ret (pe_lst (pa_cons (pv 0) pa_nil)))) pss_nil) (pss_cons (ps_if (pt_cmpR op_lt (pv 0) pe_int (nomark _)) (pss_one (ps_ret (pe_lst (pa_cons pe_int (pa_cons (pv 0) pa_nil))))) pss_nil) (pss_one (ps_ret (pe_op op_cat (pe_lst (pa_cons pe_int pa_nil)) (pe_callS G_to_big (hr.mono (by decide)) rfl T.g_to_big F_to_big.kp b_to_big (fun σ => passAt (takes_of rfl rfl rfl rfl) σ) (pa_cons (pv 0) (pa_cons pe_int pa_nil))))))))), ?_⟩
  rintro ⟨size_, ⟨⟩⟩ F0 H0 Q KP L
  show Blk K F0 H0 KP _ [iM size_] (m_write_length size_)
  unfold m_write_length
  have ht_ := ((et_or (et_test (ev_op (opx_B0 (g := fun i j => decide (i < j))) mild_ok (ev_var (i := 0) (x := size_) rfl) (ev_int (i := 0)))) (et_test (ev_op (opx_B0 (g := fun i j => decide (j < i))) mild_ok (ev_var (i := 0) (x := size_) rfl) (ev_int (i := 65535))))) : EvT K (W0 E) [iM size_] _ _)
  refine blk_seq (blk_if2 L trivial (by exact ht_) ?_ ?_)
  · exact blk_raise L trivial
  · refine blk_nil ?_
    try refine Blk.nx ?_
    have ht_ := ((et_test (ev_op (opx_B0 (g := fun i j => decide (i < j))) mild_ok (ev_var (i := 0) (x := size_) rfl) (ev_int (i := 128)))) : EvT K (W0 E) [iM size_] _ _)
    refine blk_seq (blk_if2 L trivial (by exact ht_) ?_ ?_)
    · have hr_ := ((ev_ofN (en_lst (f := (fun y => ([y.1] : List Int))) (ea_cons (ev_var (i := 0) (x := size_) rfl) ea_nil) (fun _ => rfl) (fun _ => by show 1 ≤ 100000; decide))) : EvX K (W0 E) [iM size_] _ _)
      exact blk_ret L trivial (by exact hr_)
    · refine blk_nil ?_
      try refine Blk.nx ?_
      have ht_ := ((et_test (ev_op (opx_B0 (g := fun i j => decide (i < j))) mild_ok (ev_var (i := 0) (x := size_) rfl) (ev_int (i := 256)))) : EvT K (W0 E) [iM size_] _ _)
      refine blk_seq (blk_if2 L trivial (by exact ht_) ?_ ?_)
      · have hr_ := ((ev_ofN (en_lst (f := (fun y => ([y.1, y.2.1] : List Int))) (ea_cons (ev_int (i := 129)) (ea_cons (ev_var (i := 0) (x := size_) rfl) ea_nil)) (fun _ => rfl) (fun _ => by show 2 ≤ 100000; decide))) : EvX K (W0 E) [iM size_] _ _)
        exact blk_ret L trivial (by exact hr_)
      · refine blk_nil ?_
        try refine Blk.nx ?_
        have hr_ := ((ev_ofN (en_cat (ev_ofN (en_lst (f := (fun y => ([y.1] : List Int))) (ea_cons (ev_int (i := 130)) ea_nil) (fun _ => rfl) (fun _ => by show 1 ≤ 100000; decide))) (ev_call (f := (fun (p : Int × Int × Unit) => m_to_big p.1 p.2.1)) (ea_cons (ev_var (i := 0) (x := size_) rfl) (ea_cons (ev_int (i := 2)) ea_nil))))) : EvX K (W0 E) [iM size_] _ _)
        exact blk_ret L trivial (by exact hr_)
noncomputable def m_read_length_k2 (data_ : (List Int)) (at_ : Int) : Int × Int → Res (T2 Int Int) := fun (behind_, size_) =>   (((Res.ok (some at_)).bind fun (lo23 : Option Int) => (Res.ok (some behind_)).bind fun (hi24 : Option Int) => Res.ok (cutL data_ lo23 hi24)).bind fun (t25 : (List Int)) => (m_write_length size_).bind fun (t26 : (List Int)) => Res.need ((toD t25).okq = true ∧ (toD t26).okq = true) (Res.ok (!pyEq (toD t25) (toD t26)))).bind fun b => cond b   (Res.exc "Malformed")   ((Res.ok (T2.mk size_ behind_)))
noncomputable def m_read_length (data_ : (List Int)) (at_ : Int) : Res (T2 Int Int) :=
  ((Res.ok (some at_)).bind fun (lo20 : Option Int) => (Res.ok (some (at_ + (1 : Int)))).bind fun (hi21 : Option Int) => Res.ok (cutL data_ lo20 hi21)).bind fun (first_ : (List Int)) =>   ((Res.ok (decide (((first_).length : Int) = (0 : Int))))).bind fun b => cond b   (Res.exc "Malformed")   (((Res.ok (at_ + (1 : Int)))).bind fun (behind_ : Int) =>   (idx first_ (0 : Int)).bind fun (size_ : Int) =>   ((Res.ok (decide (size_ ∈ (((fun (x : (T2 Int Int)) => Tu.mk [x.a, x.b]) (T2.mk (129 : Int) (130 : Int)))).xs)))).bind fun b => cond b   (((Res.ok (size_ - (128 : Int)))).bind fun (y32 : Int) => (fun (behind_ : Int) => ((((Res.ok (some (at_ + (1 : Int)))).bind fun (lo27 : Option Int) => (Res.ok (some behind_)).bind fun (hi28 : Option Int) => Res.ok (cutL data_ lo27 hi28)).bind fun a29 => Res.ok (a29, ())).bind fun p31 => m_from_big p31.1).bind fun (size_ : Int) =>   (m_read_length_k2 data_ at_) (behind_, size_)) (behind_ + y32))   ((m_read_length_k2 data_ at_) (behind_, size_)))
theorem ok_read_length {P : Program} {w : World} {K : PySem.W.Frag} {mg : Str → Option Value} {base : Heap} (T : Facts P w K mg) {fd : FuncData} (F : FnP K "read_length" "read_length" s_read_length (He.ga K "read_length") fd) :
    FnOk P w K mg base (L2.CX P w) 4 (He.ga K "read_length") fd ["data", "at"] (spM K (fun (p : (List Int) × Int × Unit) => m_read_length p.1 p.2.1)) := by
  obtain ⟨fd_from_big, F_from_big⟩ := T.d_from_big
  have G_from_big := ok_from_big (P := P) (w := w) (base := base) T F_from_big
  have b_from_big : Binds K fd_from_big ["data"] [] := F_from_big.bindsN fun _ _ _ _ _ _ us hl => match us, hl with | [_], _ => rfl
  obtain ⟨fd_write_length, F_write_length⟩ := T.d_write_length
  have G_write_length := ok_write_length (P := P) (w := w) (base := base) T F_write_length
  have b_write_length : Binds K fd_write_length ["size"] [] := F_write_length.bindsN fun _ _ _ _ _ _ us hl => match us, hl with | [_], _ => rfl
  refine fn_ok F sc_read_length (fun y => rfl) (fun cdv A outer s H E hr => ?_)
  refine ⟨_, (pss_cons (ps_set (i := 2) sc_read_length.nd rfl (Or.inl rfl) (pe_slice (cr_slL rfl) (pv 0) (po_some (pv 1)) (po_some (pe_op op_add (pv 1) pe_int)))) (pss_cons (ps_if (pt_cmpR op_eq (pe_callB (cr_len rfl) (by rfl) T.n_len (by decide +kernel) (pa_cons (pv 2) pa_nil)) pe_int (nomark _)) (pss_one (ps_raise rfl (takes_of rfl rfl rfl rfl) (pmk_own PySem.F.excBase_ValueError T.x_Malformed T.g_Malformed T.k_Malformed (raises_own T.b_Malformed T.t_Malformed) rfl))) pss_nil) (pss_cons (ps_set (i := 3) sc_read_length.nd rfl (Or.inl rfl) (pe_op op_add (pv 1) pe_int)) (pss_cons (ps_set (i := 4) sc_read_length.nd rfl (Or.inl rfl) (pe_ix (cr_ixL rfl) (pv 2) pe_int (fun _ _ => rfl))) (pss_cons (ps_if (pt_cmpR op_in_seq (pv 4) (pe_tup (pa_cons pe_int (pa_cons pe_int pa_nil))) rfl) (pss_cons (ps_aug (i := 3) sc_read_length.nd rfl (Or.inl rfl) (pe_op op_sub (pv 4) pe_int) ip_add) (pss_one (ps_set (i := 4) sc_read_length.nd rfl (Or.inl rfl) (pe_callS G_from_big (hr.mono (by decide)) rfl T.g_from_big F_from_big.kp b_from_big (fun σ => passAt (takes_of rfl rfl rfl rfl) σ) (pa_cons (pe_slice (cr_slL rfl) (pv 0) (po_some (pe_op op_add (pv 1) pe_int)) (po_some (pv 3))) pa_nil))))) pss_nil) (pss_cons (ps_if (pt_cmpR (op_neD (Room.units hr)) (pe_slice (cr_slL rfl) (pv 0) (po_some (pv 1)) (po_some (pv 3))) (pe_callS G_write_length (hr.mono (by decide)) rfl T.g_write_length F_write_length.kp b_write_length (fun σ => passAt (takes_of rfl rfl rfl rfl) σ) (pa_cons (pv 4) pa_nil)) (nomark _)) (pss_one (ps_raise rfl (takes_of rfl rfl rfl rfl) (pmk_own PySem.F.excBase_ValueError T.x_Malformed T.g_Malformed T.k_Malformed (raises_own T.b_Malformed T.t_Malformed) rfl))) pss_nil) (pss_one (ps_ret (pe_tup (pa_cons (pv 4) (pa_cons (pv 3) pa_nil))))))))))), ?_⟩
  rintro ⟨data_, at_, ⟨⟩⟩ F0 H0 Q KP L
  show Blk K F0 H0 KP _ [iM data_, iM at_, none, none, none] (m_read_length data_ at_)
  unfold m_read_length
  have hs_ := ((ev_ofN (en_sliceV (ev_var (i := 0) (x := data_) rfl) (ept_some (ev_var (i := 1) (x := at_) rfl)) (ept_some (ev_op (opx_I0 (g := fun i j => i + j)) mild_ok (ev_var (i := 1) (x := at_) rfl) (ev_int (i := 1)))))) : EvX K (W0 E) [iM data_, iM at_, none, none, none] _ _)
  refine blk_seq (blk_set (i := 2) L trivial (by exact hs_) fun first_ => ?_)
  show Blk _ _ _ _ _ [iM data_, iM at_, iM first_, none, none] _
  try refine Blk.nx ?_
  have ht_ := ((et_test (ev_op opx_eqI mild_ok (ev_cb cx_len (fun _ _ h => nomatch h) (ea_cons (ev_var (i := 2) (x := first_) rfl) ea_nil)) (ev_int (i := 0)))) : EvT K (W0 E) [iM data_, iM at_, iM first_, none, none] _ _)
  refine blk_seq (blk_if2 L trivial (by exact ht_) ?_ ?_)
  · exact blk_raise L trivial
  · refine blk_nil ?_
    try refine Blk.nx ?_
    have hs_ := ((ev_op (opx_I0 (g := fun i j => i + j)) mild_ok (ev_var (i := 1) (x := at_) rfl) (ev_int (i := 1))) : EvX K (W0 E) [iM data_, iM at_, iM first_, none, none] _ _)
    refine blk_seq (blk_set (i := 3) L trivial (by exact hs_) fun behind_ => ?_)
    show Blk _ _ _ _ _ [iM data_, iM at_, iM first_, iM behind_, none] _
    try refine Blk.nx ?_
    have hs_ := ((ev_op opx_ixL (fun x y => idx_mild x y) (ev_var (i := 2) (x := first_) rfl) (ev_int (i := 0))) : EvX K (W0 E) [iM data_, iM at_, iM first_, iM behind_, none] _ _)
    refine blk_seq (blk_set (i := 4) L trivial (by exact hs_) fun size_ => ?_)
    show Blk _ _ _ _ _ [iM data_, iM at_, iM first_, iM behind_, iM size_] _
    try refine Blk.nx ?_
    have ht_ := ((et_test (ev_op (opx_inI false) mild_ok (ev_var (i := 4) (x := size_) rfl) (ev_as (ev_tup (f := (fun (y : Int × Int × Unit) => T2.mk y.1 y.2.1)) (ea_cons (ev_int (i := 129)) (ea_cons (ev_int (i := 130)) ea_nil)) (fun _ => rfl) (fun _ => by show 2 ≤ 100000; decide)) (fun (x : (T2 Int Int)) => Tu.mk [x.a, x.b]) (fun _ => rfl) rfl))) : EvT K (W0 E) [iM data_, iM at_, iM first_, iM behind_, iM size_] _ _)
    refine blk_seq (blk_ifj (S := Int × Int) (fun (behind_, size_) => [iM data_, iM at_, iM first_, iM behind_, iM size_]) (m_read_length_k2 data_ at_) L trivial (by exact ht_) ?_ ?_ ?_)
    · rintro ⟨behind_, size_⟩
      show Blk _ _ _ _ _ [iM data_, iM at_, iM first_, iM behind_, iM size_] ((m_read_length_k2 data_ at_) (behind_, size_))
      unfold m_read_length_k2
      try refine Blk.nx ?_
      have ht_ := ((et_test (ev_op opx_neD mild_need (ev_ofN (en_sliceV (ev_var (i := 0) (x := data_) rfl) (ept_some (ev_var (i := 1) (x := at_) rfl)) (ept_some (ev_var (i := 3) (x := behind_) rfl)))) (ev_call (f := (fun (p : Int × Unit) => m_write_length p.1)) (ea_cons (ev_var (i := 4) (x := size_) rfl) ea_nil)))) : EvT K (W0 E) [iM data_, iM at_, iM first_, iM behind_, iM size_] _ _)
      refine blk_seq (blk_if2 L trivial (by exact ht_) ?_ ?_)
      · exact blk_raise L trivial
      · refine blk_nil ?_
        try refine Blk.nx ?_
        have hr_ := ((ev_tup (f := (fun (y : Int × Int × Unit) => T2.mk y.1 y.2.1)) (ea_cons (ev_var (i := 4) (x := size_) rfl) (ea_cons (ev_var (i := 3) (x := behind_) rfl) ea_nil)) (fun _ => rfl) (fun _ => by show 2 ≤ 100000; decide)) : EvX K (W0 E) [iM data_, iM at_, iM first_, iM behind_, iM size_] _ _)
        exact blk_ret L trivial (by exact hr_)
    · intro hk2
      have hs_ := ((ev_op (opx_I0 (g := fun i j => i - j)) mild_ok (ev_var (i := 4) (x := size_) rfl) (ev_int (i := 128))) : EvX K (W0 E) [iM data_, iM at_, iM first_, iM behind_, iM size_] _ _)
      refine blk_seq (blk_aug (i := 3) (x := behind_) (g := fun i j => i + j) L trivial rfl (by exact hs_) fun y33 => ?_)
      show Blk _ _ _ _ _ [iM data_, iM at_, iM first_, iM ((behind_ + y33)), iM size_] ((fun (behind_ : Int) => _) (behind_ + y33))
      generalize behind_ + y33 = behind_
      show Blk _ _ _ _ _ [iM data_, iM at_, iM first_, iM behind_, iM size_] _
      try refine Blk.nx ?_
      have hs_ := ((ev_call (f := (fun (p : (List Int) × Unit) => m_from_big p.1)) (ea_cons (ev_ofN (en_sliceV (ev_var (i := 0) (x := data_) rfl) (ept_some (ev_op (opx_I0 (g := fun i j => i + j)) mild_ok (ev_var (i := 1) (x := at_) rfl) (ev_int (i := 1)))) (ept_some (ev_var (i := 3) (x := behind_) rfl)))) ea_nil)) : EvX K (W0 E) [iM data_, iM at_, iM first_, iM behind_, iM size_] _ _)
      refine blk_set (i := 4) L trivial (by exact hs_) fun size_ => ?_
      show Blk _ _ _ _ _ [iM data_, iM at_, iM first_, iM behind_, iM size_] _
      try refine Blk.nx ?_
      exact (hk2 (behind_, size_)).weak (.same (.same (.same (.same (.same .nil)))))
    · intro hk2
      refine blk_nil ?_
      try refine Blk.nx ?_
      exact (hk2 (behind_, size_)).weak (.same (.same (.same (.same (.same .nil)))))
noncomputable def m_u_part (tag_ : Int) (content_ : (List Int)) : Res (List Int) :=
  ((m_write_length ((content_).length : Int)).bind fun (t34 : (List Int)) => Res.need (([tag_] : List Int).length + t34.length ≤ 16777216) (Res.ok (([tag_] : List Int) ++ t34))).bind fun (t35 : (List Int)) => Res.need (t35.length + content_.length ≤ 16777216) (Res.ok (t35 ++ content_))
theorem ok_u_part {P : Program} {w : World} {K : PySem.W.Frag} {mg : Str → Option Value} {base : Heap} (T : Facts P w K mg) {fd : FuncData} (F : FnP K "_part" "_part" s_u_part (He.ga K "_part") fd) :
    FnOk P w K mg base (L2.CX P w) 4 (He.ga K "_part") fd ["tag", "content"] (spM K (fun (p : Int × (List Int) × Unit) => m_u_part p.1 p.2.1)) := by
  obtain ⟨fd_write_length, F_write_length⟩ := T.d_write_length
  have G_write_length := ok_write_length (P := P) (w := w) (base := base) T F_write_length
  have b_write_length : Binds K fd_write_length ["size"] [] := F_write_length.bindsN fun _ _ _ _ _ _ us hl => match us, hl with | [_], _ => rfl
  refine fn_ok F sc_u_part (fun y => rfl) (fun cdv A outer s H E hr => ?_)
  refine ⟨_, (pss_one (ps_ret (pe_op op_cat (pe_op op_cat (pe_lst (pa_cons (pv 0) pa_nil)) (pe_callS G_write_length (hr.mono (by decide)) rfl T.g_write_length F_write_length.kp b_write_length (fun σ => passAt (takes_of rfl rfl rfl rfl) σ) (pa_cons (pe_callB (cr_len rfl) (by rfl) T.n_len (by decide +kernel) (pa_cons (pv 1) pa_nil)) pa_nil))) (pv 1)))), ?_⟩
  rintro ⟨tag_, content_, ⟨⟩⟩ F0 H0 Q KP L
  show Blk K F0 H0 KP _ [iM tag_, iM content_] (m_u_part tag_ content_)
  unfold m_u_part
  have hr_ := ((ev_ofN (en_cat (ev_ofN (en_cat (ev_ofN (en_lst (f := (fun y => ([y.1] : List Int))) (ea_cons (ev_var (i := 0) (x := tag_) rfl) ea_nil) (fun _ => rfl) (fun _ => by show 1 ≤ 100000; decide))) (ev_call (f := (fun (p : Int × Unit) => m_write_length p.1)) (ea_cons (ev_cb cx_len (fun _ _ h => nomatch h) (ea_cons (ev_var (i := 1) (x := content_) rfl) ea_nil)) ea_nil)))) (ev_var (i := 1) (x := content_) rfl))) : EvX K (W0 E) [iM tag_, iM content_] _ _)
  exact blk_ret L trivial (by exact hr_)
noncomputable def m_u_number_content (number_ : Int) : Res (List Int) :=
  m_to_big number_ ((((Builtin.Int.intBits number_ : Nat) : Int) / (8 : Int)) + (1 : Int))
theorem ok_u_number_content {P : Program} {w : World} {K : PySem.W.Frag} {mg : Str → Option Value} {base : Heap} (T : Facts P w K mg) {fd : FuncData} (F : FnP K "_number_content" "_number_content" s_u_number_content (He.ga K "_number_content") fd) :
    FnOk P w K mg base (L2.CX P w) 3 (He.ga K "_number_content") fd ["number"] (spM K (fun (p : Int × Unit) => m_u_number_content p.1)) := by
  obtain ⟨fd_to_big, F_to_big⟩ := T.d_to_big
  have G_to_big := ok_to_big (P := P) (w := w) (base := base) T F_to_big
  have b_to_big : Binds K fd_to_big ["number", "size"] [] := F_to_big.bindsN fun _ _ _ _ _ _ us hl => match us, hl with | [_, _], _ => rfl
  refine fn_ok F sc_u_number_content (fun y => rfl) (fun cdv A outer s H E hr => ?_)
  refine ⟨_, (pss_one (ps_ret (pe_callS G_to_big (hr.mono (by decide)) rfl T.g_to_big F_to_big.kp b_to_big (fun σ => passAt (takes_of rfl rfl rfl rfl) σ) (pa_cons (pv 0) (pa_cons (pe_op op_add (pe_op op_fdiv (pe_bits (pv 0)) pe_int) pe_int) pa_nil))))), ?_⟩
  rintro ⟨number_, ⟨⟩⟩ F0 H0 Q KP L
  show Blk K F0 H0 KP _ [iM number_] (m_u_number_content number_)
  unfold m_u_number_content
  have hr_ := ((ev_call (f := (fun (p : Int × Int × Unit) => m_to_big p.1 p.2.1)) (ea_cons (ev_var (i := 0) (x := number_) rfl) (ea_cons (ev_op (opx_I0 (g := fun i j => i + j)) mild_ok (ev_opI (C := CDiv) (g := fun i j => i / j) (fun x y _ h => by cases h; exact ⟨by decide, by decide⟩) (ev_bits (ev_var (i := 0) (x := number_) rfl)) (ev_int (i := 8))) (ev_int (i := 1))) ea_nil))) : EvX K (W0 E) [iM number_] _ _)
  exact blk_ret L trivial (by exact hr_)
noncomputable def m_write_number (number_ : Int) : Res (List Int) :=
  (cond (decide (number_ < (0 : Int))) (Res.ok true) ((Res.ok (decide ((520 : Int) < ((Builtin.Int.intBits number_ : Nat) : Int)))))).bind fun b => cond b   (Res.exc "OutOfRange")   ((((m_u_number_content number_).bind fun a36 => Res.ok (a36, ())).bind fun a39 => Res.ok ((2 : Int), a39)).bind fun p40 => m_u_part p40.1 p40.2.1)
theorem ok_write_number {P : Program} {w : World} {K : PySem.W.Frag} {mg : Str → Option Value} {base : Heap} (T : Facts P w K mg) {fd : FuncData} (F : FnP K "write_number" "write_number" s_write_number (He.ga K "write_number") fd) :
    FnOk P w K mg base (L2.CX P w) 5 (He.ga K "write_number") fd ["number"] (spM K (fun (p : Int × Unit) => m_write_number p.1)) := by
  obtain ⟨fd_u_number_content, F_u_number_content⟩ := T.d_u_number_content
  have G_u_number_content := ok_u_number_content (P := P) (w := w) (base := base) T F_u_number_content
  have b_u_number_content : Binds K fd_u_number_content ["number"] [] := F_u_number_content.bindsN fun _ _ _ _ _ _ us hl => match us, hl with | [_], _ => rfl
  obtain ⟨fd_u_part, F_u_part⟩ := T.d_u_part
  have G_u_part := ok_u_part (P := P) (w := w) (base := base) T F_u_part
  have b_u_part : Binds K fd_u_part ["tag", "content"] [] := F_u_part.bindsN fun _ _ _ _ _ _ us hl => match us, hl with | [_, _], _ => rfl
  refine fn_ok F sc_write_number (fun y => rfl) (fun cdv A outer s H E hr => ?_)
  refine ⟨_, (pss_cons (ps_if (PW.pt (pw_or (pt_cmpR op_lt (pv 0) pe_int (nomark _)) (pw_or1 (pt_cmpR op_gt (pe_bits (pv 0)) (pe_glob (v := .int 520) rfl T.c_MOST_BITS.choose_spec ⟨_, rfl⟩) (nomark _))))) (pss_one (ps_raise rfl (takes_of rfl rfl rfl rfl) (pmk_own PySem.F.excBase_ValueError T.x_OutOfRange T.g_OutOfRange T.k_OutOfRange (raises_own T.b_OutOfRange T.t_OutOfRange) rfl))) pss_nil) (pss_one (ps_ret (pe_callS G_u_part (hr.mono (by decide)) rfl T.g_u_part F_u_part.kp b_u_part (fun σ => passAt (takes_of rfl rfl rfl rfl) σ) (pa_cons (pe_glob (v := .int 2) rfl T.c_NUMBER_TAG.choose_spec ⟨_, rfl⟩) (pa_cons (pe_callS G_u_number_content (hr.mono (by decide)) rfl T.g_u_number_content F_u_number_content.kp b_u_number_content (fun σ => passAt (takes_of rfl rfl rfl rfl) σ) (pa_cons (pv 0) pa_nil)) pa_nil)))))), ?_⟩
  rintro ⟨number_, ⟨⟩⟩ F0 H0 Q KP L
  show Blk K F0 H0 KP _ [iM number_] (m_write_number number_)
  unfold m_write_number
  have ht_ := ((et_or (et_test (ev_op (opx_B0 (g := fun i j => decide (i < j))) mild_ok (ev_var (i := 0) (x := number_) rfl) (ev_int (i := 0)))) (et_test (ev_op (opx_B0 (g := fun i j => decide (j < i))) mild_ok (ev_bits (ev_var (i := 0) (x := number_) rfl)) (ev_int (i := 520))))) : EvT K (W0 E) [iM number_] _ _)
  refine blk_seq (blk_if2 L trivial (by exact ht_) ?_ ?_)
  · exact blk_raise L trivial
  · refine blk_nil ?_
    try refine Blk.nx ?_
    have hr_ := ((ev_call (f := (fun (p : Int × (List Int) × Unit) => m_u_part p.1 p.2.1)) (ea_cons (ev_int (i := 2)) (ea_cons (ev_call (f := (fun (p : Int × Unit) => m_u_number_content p.1)) (ea_cons (ev_var (i := 0) (x := number_) rfl) ea_nil)) ea_nil))) : EvX K (W0 E) [iM number_] _ _)
    exact blk_ret L trivial (by exact hr_)
noncomputable def m_u_split_parts_w1 (data_ : (List Int)) (k1 : (List (T2 Int (List Int))) × Int → Res (List (T2 Int (List Int)))) : Nat → (List (T2 Int (List Int))) × Int → Res (List (T2 Int (List Int)))
  | 0, _ => Res.stuck
  | n1 + 1, (parts_, at_) => ((Res.ok (decide (at_ < ((data_).length : Int))))).bind fun b => cond b   ((m_read_length data_ (at_ + (1 : Int))).bind fun (u41 : (T2 Int Int)) =>   (fun (size_ : Int) (start_ : Int) => ((Res.ok (start_ + size_))).bind fun (behind_ : Int) =>   ((Res.ok (decide (((data_).length : Int) < behind_)))).bind fun b => cond b   (Res.exc "Malformed")   ((((idx data_ at_).bind fun a46 => (((Res.ok (some start_)).bind fun (lo42 : Option Int) => (Res.ok (some behind_)).bind fun (hi43 : Option Int) => Res.ok (cutL data_ lo42 hi43)).bind fun a44 => Res.ok (a44, ())).bind fun a47 => Res.ok (a46, a47)).bind fun p48 => Res.ok (T2.mk p48.1 p48.2.1)).bind fun (y49 : (T2 Int (List Int))) => Res.need (parts_.length < 16777216) ((fun (parts_ : (List (T2 Int (List Int)))) =>   ((Res.ok behind_)).bind fun (at_ : Int) =>   m_u_split_parts_w1 data_ k1 n1 (parts_, at_)) (parts_ ++ [y49])))) u41.a u41.b)   (k1 (parts_, at_))
noncomputable def m_u_split_parts_k3 : (List (T2 Int (List Int))) × Int → Res (List (T2 Int (List Int))) := fun (parts_, at_) =>   (Res.ok parts_)
noncomputable def m_u_split_parts (data_ : (List Int)) : Res (List (T2 Int (List Int))) :=
  ((Res.ok ([] : List (T2 Int (List Int))))).bind fun (parts_ : (List (T2 Int (List Int)))) =>   ((Res.ok (0 : Int))).bind fun (at_ : Int) =>   m_u_split_parts_w1 data_ (m_u_split_parts_k3) (data_.length + 1) (parts_, at_)
theorem ok_u_split_parts {P : Program} {w : World} {K : PySem.W.Frag} {mg : Str → Option Value} {base : Heap} (T : Facts P w K mg) {fd : FuncData} (F : FnP K "_split_parts" "_split_parts" s_u_split_parts (He.ga K "_split_parts") fd) :
    FnOk P w K mg base (L2.CX P w) 5 (He.ga K "_split_parts") fd ["data"] (spM K (fun (p : (List Int) × Unit) => m_u_split_parts p.1)) := by
  obtain ⟨fd_read_length, F_read_length⟩ := T.d_read_length
  have G_read_length := ok_read_length (P := P) (w := w) (base := base) T F_read_length
  have b_read_length : Binds K fd_read_length ["data", "at"] [] := F_read_length.bindsN fun _ _ _ _ _ _ us hl => match us, hl with | [_, _], _ => rfl
  refine fn_ok F sc_u_split_parts (fun y => rfl) (fun cdv A outer s H E hr => ?_)
  refine ⟨_, (pss_cons (ps_set (i := 1) sc_u_split_parts.nd rfl (Or.inl rfl) (pe_lst pa_nil)) (pss_cons (ps_set (i := 2) sc_u_split_parts.nd rfl (Or.inl rfl) pe_int) (pss_cons (ps_while (passes_of rfl) (pt_cmpR op_lt (pv 2) (pe_callB (cr_len rfl) (by rfl) T.n_len (by decide +kernel) (pa_cons (pv 0) pa_nil)) (nomark _)) (pss_cons (ps_asg (pe_callS G_read_length (hr.mono (by decide)) rfl T.g_read_length F_read_length.kp b_read_length (fun σ => passAt (takes_of rfl rfl rfl rfl) σ) (pa_cons (pv 0) (pa_cons (pe_op op_add (pv 2) pe_int) pa_nil))) (pg_tup rfl (pgs_cons (pg_name (i := 3) sc_u_split_parts.nd rfl (Or.inl rfl)) (pgs_cons (pg_name (i := 4) sc_u_split_parts.nd rfl (Or.inl rfl)) pgs_nil)))) (pss_cons (ps_set (i := 5) sc_u_split_parts.nd rfl (Or.inl rfl) (pe_op op_add (pv 4) (pv 3))) (pss_cons (ps_if (pt_cmpR op_gt (pv 5) (pe_callB (cr_len rfl) (by rfl) T.n_len (by decide +kernel) (pa_cons (pv 0) pa_nil)) (nomark _)) (pss_one (ps_raise rfl (takes_of rfl rfl rfl rfl) (pmk_own PySem.F.excBase_ValueError T.x_Malformed T.g_Malformed T.k_Malformed (raises_own T.b_Malformed T.t_Malformed) rfl))) pss_nil) (pss_cons (ps_expr (pe_bm PySem.F.plainAttrs_list PySem.F.slot_list_append PySem.F.type_list_append mt_append (pv 1) (pa_cons (pe_tup (pa_cons (pe_ix (cr_ixL rfl) (pv 0) (pv 2) (fun _ _ => rfl)) (pa_cons (pe_slice (cr_slL rfl) (pv 0) (po_some (pv 4)) (po_some (pv 5))) pa_nil))) pa_nil))) (pss_one (ps_set (i := 2) sc_u_split_parts.nd rfl (Or.inl rfl) (pv 5)))))))) (pss_one (ps_ret (pv 1)))))), ?_⟩
  rintro ⟨data_, ⟨⟩⟩ F0 H0 Q KP L
  show Blk K F0 H0 KP _ [iM data_, none, none, none, none, none] (m_u_split_parts data_)
  unfold m_u_split_parts
  have hs_ := ((en_lst (f := (fun y => ([] : List (T2 Int (List Int))))) ea_nil (fun _ => rfl) (fun _ => by show 0 ≤ 100000; decide)) : EvN K (W0 E) [iM data_, none, none, none, none, none] _ _)
  refine blk_seq (blk_own (i := 1) L trivial (by exact hs_) fun parts_ => ?_)
  show Blk _ _ _ _ _ [iM data_, oW parts_, none, none, none, none] _
  try refine Blk.nx ?_
  have hs_ := ((ev_int (i := 0)) : EvX K (W0 E) [iM data_, oW parts_, none, none, none, none] _ _)
  refine blk_seq (blk_set (i := 2) L trivial (by exact hs_) fun at_ => ?_)
  show Blk _ _ _ _ _ [iM data_, oW parts_, iM at_, none, none, none] _
  try refine Blk.nx ?_
  refine blk_seq (blk_while (S := (List (T2 Int (List Int))) × Int) (m_u_split_parts_w1 data_ (m_u_split_parts_k3)) (fun (s : (List (T2 Int (List Int))) × Int) => match s with | (parts_, at_) => (Res.ok (decide (at_ < ((data_).length : Int))))) (fun n s => match s with | (parts_, at_) => (m_read_length data_ (at_ + (1 : Int))).bind fun (u41 : (T2 Int Int)) =>   (fun (size_ : Int) (start_ : Int) => ((Res.ok (start_ + size_))).bind fun (behind_ : Int) =>   ((Res.ok (decide (((data_).length : Int) < behind_)))).bind fun b => cond b   (Res.exc "Malformed")   ((((idx data_ at_).bind fun a46 => (((Res.ok (some start_)).bind fun (lo42 : Option Int) => (Res.ok (some behind_)).bind fun (hi43 : Option Int) => Res.ok (cutL data_ lo42 hi43)).bind fun a44 => Res.ok (a44, ())).bind fun a47 => Res.ok (a46, a47)).bind fun p48 => Res.ok (T2.mk p48.1 p48.2.1)).bind fun (y49 : (T2 Int (List Int))) => Res.need (parts_.length < 16777216) ((fun (parts_ : (List (T2 Int (List Int)))) =>   ((Res.ok behind_)).bind fun (at_ : Int) =>   m_u_split_parts_w1 data_ (m_u_split_parts_k3) n (parts_, at_)) (parts_ ++ [y49])))) u41.a u41.b) (m_u_split_parts_k3) (fun (parts_, at_) => [iM data_, oW parts_, iM at_, none, none, none]) (parts_, at_) (data_.length + 1) L ?_ (.same (.same (.same (.same (.same (.same .nil)))))) ?_ (fun ⟨_, _⟩ => rfl) (fun _ ⟨_, _⟩ => rfl) ?_ ?_)
  · rintro ⟨parts_, at_⟩
    exact trivial
  · rintro ⟨parts_, at_⟩
    exact ((et_test (ev_op (opx_B0 (g := fun i j => decide (i < j))) mild_ok (ev_var (i := 2) (x := at_) rfl) (ev_cb cx_len (fun _ _ h => nomatch h) (ea_cons (ev_var (i := 0) (x := data_) rfl) ea_nil)))) : EvT K (W0 E) [iM data_, oW parts_, iM at_, none, none, none] _ _)
  · intro n1 s_ N_ hN1
    obtain ⟨parts_, at_⟩ := s_
    show Blk _ _ _ _ _ [iM data_, oW parts_, iM at_, none, none, none] _
    have hs_ := ((ev_call (f := (fun (p : (List Int) × Int × Unit) => m_read_length p.1 p.2.1)) (ea_cons (ev_var (i := 0) (x := data_) rfl) (ea_cons (ev_op (opx_I0 (g := fun i j => i + j)) mild_ok (ev_var (i := 2) (x := at_) rfl) (ev_int (i := 1))) ea_nil))) : EvX K (W0 E) [iM data_, oW parts_, iM at_, none, none, none] _ _)
    refine blk_seq (blk_asg L trivial (by exact hs_) (fun _ => (gx_tup (n := 2) (gxs_cons gx_name (gxs_cons gx_name gxs_nil)) rfl)) fun u41 => ?_)
    show Blk _ _ _ _ _ [iM data_, oW parts_, iM at_, iM u41.a, iM u41.b, none] ((fun (size_ : Int) (start_ : Int) => _) u41.a u41.b)
    generalize u41.a = size_
    generalize u41.b = start_
    show Blk _ _ _ _ _ [iM data_, oW parts_, iM at_, iM size_, iM start_, none] _
    try refine Blk.nx ?_
    have hs_ := ((ev_op (opx_I0 (g := fun i j => i + j)) mild_ok (ev_var (i := 4) (x := start_) rfl) (ev_var (i := 3) (x := size_) rfl)) : EvX K (W0 E) [iM data_, oW parts_, iM at_, iM size_, iM start_, none] _ _)
    refine blk_seq (blk_set (i := 5) L trivial (by exact hs_) fun behind_ => ?_)
    show Blk _ _ _ _ _ [iM data_, oW parts_, iM at_, iM size_, iM start_, iM behind_] _
    try refine Blk.nx ?_
    have ht_ := ((et_test (ev_op (opx_B0 (g := fun i j => decide (j < i))) mild_ok (ev_var (i := 5) (x := behind_) rfl) (ev_cb cx_len (fun _ _ h => nomatch h) (ea_cons (ev_var (i := 0) (x := data_) rfl) ea_nil)))) : EvT K (W0 E) [iM data_, oW parts_, iM at_, iM size_, iM start_, iM behind_] _ _)
    refine blk_seq (blk_if2 L trivial (by exact ht_) ?_ ?_)
    · exact blk_raise L trivial
    · refine blk_nil ?_
      try refine Blk.nx ?_
      have hs_ := ((ev_tup (f := (fun (y : Int × (List Int) × Unit) => T2.mk y.1 y.2.1)) (ea_cons (ev_op opx_ixL (fun x y => idx_mild x y) (ev_var (i := 0) (x := data_) rfl) (ev_var (i := 2) (x := at_) rfl)) (ea_cons (ev_ofN (en_sliceV (ev_var (i := 0) (x := data_) rfl) (ept_some (ev_var (i := 4) (x := start_) rfl)) (ept_some (ev_var (i := 5) (x := behind_) rfl)))) ea_nil)) (fun _ => rfl) (fun _ => by show 2 ≤ 100000; decide)) : EvX K (W0 E) [iM data_, oW parts_, iM at_, iM size_, iM start_, iM behind_] _ _)
      refine blk_seq (blk_app (i := 1) (xs := parts_) L trivial rfl (by exact hs_) fun y50 => ?_)
      show Blk _ _ _ _ _ [iM data_, oW ((parts_ ++ [y50])), iM at_, iM size_, iM start_, iM behind_] ((fun (parts_ : (List (T2 Int (List Int)))) => _) (parts_ ++ [y50]))
      generalize parts_ ++ [y50] = parts_
      show Blk _ _ _ _ _ [iM data_, oW parts_, iM at_, iM size_, iM start_, iM behind_] _
      try refine Blk.nx ?_
      have hs_ := ((ev_var (i := 5) (x := behind_) rfl) : EvX K (W0 E) [iM data_, oW parts_, iM at_, iM size_, iM start_, iM behind_] _ _)
      refine blk_set (i := 2) L trivial (by exact hs_) fun at_ => ?_
      show Blk _ _ _ _ _ [iM data_, oW parts_, iM at_, iM size_, iM start_, iM behind_] _
      try refine Blk.nx ?_
      exact (hN1 (parts_, at_)).weak (.same (.same (.same (.drop (.drop (.drop .nil))))))
  · rintro ⟨parts_, at_⟩
    show Blk _ _ _ _ _ [iM data_, oW parts_, iM at_, none, none, none] ((m_u_split_parts_k3) (parts_, at_))
    unfold m_u_split_parts_k3
    try refine Blk.nx ?_
    refine blk_freeze 1 rfl ?_
    show Blk _ _ _ _ _ [iM data_, iM parts_, iM at_, none, none, none] _
    have hr_ := ((ev_var (i := 1) (x := parts_) rfl) : EvX K (W0 E) [iM data_, iM parts_, iM at_, none, none, none] _ _)
    exact blk_ret L trivial (by exact hr_)
noncomputable def m_u_only_part (data_ : D) : Res (T2 Int (List Int)) :=
  ((m_is_bytes data_).bind fun (t51 : Bool) => Res.ok (!t51)).bind fun b => cond b   (Res.exc "Malformed")   ((((((Res.ok data_)).bind D.asInts).bind fun a52 => Res.ok (a52, ())).bind fun p54 => m_u_split_parts p54.1).bind fun (parts_ : (List (T2 Int (List Int)))) =>   ((Res.ok (!decide (((parts_).length : Int) = (1 : Int))))).bind fun b => cond b   (Res.exc "Malformed")   (idx parts_ (0 : Int)))
theorem ok_u_only_part {P : Program} {w : World} {K : PySem.W.Frag} {mg : Str → Option Value} {base : Heap} (T : Facts P w K mg) {fd : FuncData} (F : FnP K "_only_part" "_only_part" s_u_only_part (He.ga K "_only_part") fd) :
    FnOk P w K mg base (L2.CX P w) 6 (He.ga K "_only_part") fd ["data"] (spM K (fun (p : D × Unit) => m_u_only_part p.1)) := by
  obtain ⟨fd_u_split_parts, F_u_split_parts⟩ := T.d_u_split_parts
  have G_u_split_parts := ok_u_split_parts (P := P) (w := w) (base := base) T F_u_split_parts
  have b_u_split_parts : Binds K fd_u_split_parts ["data"] [] := F_u_split_parts.bindsN fun _ _ _ _ _ _ us hl => match us, hl with | [_], _ => rfl
  obtain ⟨fd_is_bytes, F_is_bytes⟩ := T.d_is_bytes
  have G_is_bytes := ok_is_bytes (P := P) (w := w) (base := base) T F_is_bytes
  have b_is_bytes : Binds K fd_is_bytes ["value"] [] := F_is_bytes.bindsN fun _ _ _ _ _ _ us hl => match us, hl with | [_], _ => rfl
  refine fn_ok F sc_u_only_part (fun y => rfl) (fun cdv A outer s H E hr => ?_)
  refine ⟨_, (pss_cons (ps_if (pt_not (pt_val (pe_callS G_is_bytes (hr.mono (by decide)) rfl T.g_is_bytes F_is_bytes.kp b_is_bytes (fun σ => passAt (takes_of rfl rfl rfl rfl) σ) (pa_cons (pv 0) pa_nil)))) (pss_one (ps_raise rfl (takes_of rfl rfl rfl rfl) (pmk_own PySem.F.excBase_ValueError T.x_Malformed T.g_Malformed T.k_Malformed (raises_own T.b_Malformed T.t_Malformed) rfl))) pss_nil) (pss_cons (ps_set (i := 1) sc_u_only_part.nd rfl (Or.inl rfl) (pe_callS G_u_split_parts (hr.mono (by decide)) rfl T.g_u_split_parts F_u_split_parts.kp b_u_split_parts (fun σ => passAt (takes_of rfl rfl rfl rfl) σ) (pa_cons (pv 0) pa_nil))) (pss_cons (ps_if (pt_cmpR op_ne (pe_callB (cr_len rfl) (by rfl) T.n_len (by decide +kernel) (pa_cons (pv 1) pa_nil)) pe_int (nomark _)) (pss_one (ps_raise rfl (takes_of rfl rfl rfl rfl) (pmk_own PySem.F.excBase_ValueError T.x_Malformed T.g_Malformed T.k_Malformed (raises_own T.b_Malformed T.t_Malformed) rfl))) pss_nil) (pss_one (ps_ret (pe_ix (cr_ixL rfl) (pv 1) pe_int (fun _ _ => rfl))))))), ?_⟩
  rintro ⟨data_, ⟨⟩⟩ F0 H0 Q KP L
  show Blk K F0 H0 KP _ [iM data_, none] (m_u_only_part data_)
  unfold m_u_only_part
  have ht_ := ((et_not (et_B (ev_call (f := (fun (p : D × Unit) => m_is_bytes p.1)) (ea_cons (ev_var (i := 0) (x := data_) rfl) ea_nil)))) : EvT K (W0 E) [iM data_, none] _ _)
  refine blk_seq (blk_if2 L trivial (by exact ht_) ?_ ?_)
  · exact blk_raise L trivial
  · refine blk_nil ?_
    try refine Blk.nx ?_
    have hs_ := ((ev_call (f := (fun (p : (List Int) × Unit) => m_u_split_parts p.1)) (ea_cons (ev_cast (f := D.asInts) asInts_ok asInts_x (ev_var (i := 0) (x := data_) rfl)) ea_nil)) : EvX K (W0 E) [iM data_, none] _ _)
    refine blk_seq (blk_set (i := 1) L trivial (by exact hs_) fun parts_ => ?_)
    show Blk _ _ _ _ _ [iM data_, iM parts_] _
    try refine Blk.nx ?_
    have ht_ := ((et_test (ev_op opx_neI mild_ok (ev_cb cx_len (fun _ _ h => nomatch h) (ea_cons (ev_var (i := 1) (x := parts_) rfl) ea_nil)) (ev_int (i := 1)))) : EvT K (W0 E) [iM data_, iM parts_] _ _)
    refine blk_seq (blk_if2 L trivial (by exact ht_) ?_ ?_)
    · exact blk_raise L trivial
    · refine blk_nil ?_
      try refine Blk.nx ?_
      have hr_ := ((ev_op opx_ixL (fun x y => idx_mild x y) (ev_var (i := 1) (x := parts_) rfl) (ev_int (i := 0))) : EvX K (W0 E) [iM data_, iM parts_] _ _)
      exact blk_ret L trivial (by exact hr_)
noncomputable def m_u_number (content_ : (List Int)) : Res Int :=
  ((Res.ok (decide ((66 : Int) < ((content_).length : Int))))).bind fun b => cond b   (Res.exc "Malformed")   ((m_from_big content_).bind fun (number_ : Int) =>   (cond (decide ((520 : Int) < ((Builtin.Int.intBits number_ : Nat) : Int))) (Res.ok true) ((m_u_number_content number_).bind fun (t55 : (List Int)) => Res.need ((toD t55).okq = true ∧ (toD content_).okq = true) (Res.ok (!pyEq (toD t55) (toD content_))))).bind fun b => cond b   (Res.exc "Malformed")   ((Res.ok number_)))
theorem ok_u_number {P : Program} {w : World} {K : PySem.W.Frag} {mg : Str → Option Value} {base : Heap} (T : Facts P w K mg) {fd : FuncData} (F : FnP K "_number" "_number" s_u_number (He.ga K "_number") fd) :
    FnOk P w K mg base (L2.CX P w) 4 (He.ga K "_number") fd ["content"] (spM K (fun (p : (List Int) × Unit) => m_u_number p.1)) := by
  obtain ⟨fd_u_number_content, F_u_number_content⟩ := T.d_u_number_content
  have G_u_number_content := ok_u_number_content (P := P) (w := w) (base := base) T F_u_number_content
  have b_u_number_content : Binds K fd_u_number_content ["number"] [] := F_u_number_content.bindsN fun _ _ _ _ _ _ us hl => match us, hl with | [_], _ => rfl
  obtain ⟨fd_from_big, F_from_big⟩ := T.d_from_big
  have G_from_big := ok_from_big (P := P) (w := w) (base := base) T F_from_big
  have b_from_big : Binds K fd_from_big ["data"] [] := F_from_big.bindsN fun _ _ _ _ _ _ us hl => match us, hl with | [_], _ => rfl
  refine fn_ok F sc_u_number (fun y => rfl) (fun cdv A outer s H E hr => ?_)
  refine ⟨_, (pss_cons (ps_if (pt_cmpR op_gt (pe_callB (cr_len rfl) (by rfl) T.n_len (by decide +kernel) (pa_cons (pv 0) pa_nil)) (pe_glob (v := .int 66) rfl T.c_LONGEST_NUMBER.choose_spec ⟨_, rfl⟩) (nomark _)) (pss_one (ps_raise rfl (takes_of rfl rfl rfl rfl) (pmk_own PySem.F.excBase_ValueError T.x_Malformed T.g_Malformed T.k_Malformed (raises_own T.b_Malformed T.t_Malformed) rfl))) pss_nil) (pss_cons (ps_set (i := 1) sc_u_number.nd rfl (Or.inl rfl) (pe_callS G_from_big (hr.mono (by decide)) rfl T.g_from_big F_from_big.kp b_from_big (fun σ => passAt (takes_of rfl rfl rfl rfl) σ) (pa_cons (pv 0) pa_nil))) (pss_cons (ps_if (PW.pt (pw_or (pt_cmpR op_gt (pe_bits (pv 1)) (pe_glob (v := .int 520) rfl T.c_MOST_BITS.choose_spec ⟨_, rfl⟩) (nomark _)) (pw_or1 (pt_cmpR (op_neD (Room.units hr)) (pe_callS G_u_number_content (hr.mono (by decide)) rfl T.g_u_number_content F_u_number_content.kp b_u_number_content (fun σ => passAt (takes_of rfl rfl rfl rfl) σ) (pa_cons (pv 1) pa_nil)) (pv 0) (nomark _))))) (pss_one (ps_raise rfl (takes_of rfl rfl rfl rfl) (pmk_own PySem.F.excBase_ValueError T.x_Malformed T.g_Malformed T.k_Malformed (raises_own T.b_Malformed T.t_Malformed) rfl))) pss_nil) (pss_one (ps_ret (pv 1)))))), ?_⟩
  rintro ⟨content_, ⟨⟩⟩ F0 H0 Q KP L
  show Blk K F0 H0 KP _ [iM content_, none] (m_u_number content_)
  unfold m_u_number
  have ht_ := ((et_test (ev_op (opx_B0 (g := fun i j => decide (j < i))) mild_ok (ev_cb cx_len (fun _ _ h => nomatch h) (ea_cons (ev_var (i := 0) (x := content_) rfl) ea_nil)) (ev_int (i := 66)))) : EvT K (W0 E) [iM content_, none] _ _)
  refine blk_seq (blk_if2 L trivial (by exact ht_) ?_ ?_)
  · exact blk_raise L trivial
  · refine blk_nil ?_
    try refine Blk.nx ?_
    have hs_ := ((ev_call (f := (fun (p : (List Int) × Unit) => m_from_big p.1)) (ea_cons (ev_var (i := 0) (x := content_) rfl) ea_nil)) : EvX K (W0 E) [iM content_, none] _ _)
    refine blk_seq (blk_set (i := 1) L trivial (by exact hs_) fun number_ => ?_)
    show Blk _ _ _ _ _ [iM content_, iM number_] _
    try refine Blk.nx ?_
    have ht_ := ((et_or (et_test (ev_op (opx_B0 (g := fun i j => decide (j < i))) mild_ok (ev_bits (ev_var (i := 1) (x := number_) rfl)) (ev_int (i := 520)))) (et_test (ev_op opx_neD mild_need (ev_call (f := (fun (p : Int × Unit) => m_u_number_content p.1)) (ea_cons (ev_var (i := 1) (x := number_) rfl) ea_nil)) (ev_var (i := 0) (x := content_) rfl)))) : EvT K (W0 E) [iM content_, iM number_] _ _)
    refine blk_seq (blk_if2 L trivial (by exact ht_) ?_ ?_)
    · exact blk_raise L trivial
    · refine blk_nil ?_
      try refine Blk.nx ?_
      have hr_ := ((ev_var (i := 1) (x := number_) rfl) : EvX K (W0 E) [iM content_, iM number_] _ _)
      exact blk_ret L trivial (by exact hr_)
noncomputable def m_u_part_count_b (rec_ : D → Res Int) (value_ : D) : Res Int :=
  ((Res.need ((toD value_).plain = true) (Res.ok (isI "tuple" (toD value_)))).bind fun (t56 : Bool) => Res.ok (!t56)).bind fun b => cond b   ((Res.ok (1 : Int)))   ((((((((Res.ok value_)).bind D.asTu).bind fun (t57 : (Tu D)) => Res.ok (t57).xs).bind fun (xs59 : List D) => Res.need (xs59.length ≤ 16777216) (compL (fun (x58 : D) => Res.ok true) (fun (x58 : D) => (rec_ x58).noexc) xs59)).bind fun a60 => Res.ok (a60, ())).bind fun p62 => Res.ok (p62.1).sum).bind fun (t63 : Int) => Res.ok ((1 : Int) + t63))
noncomputable def m_u_part_count : Nat → D → Res Int
  | 0, _ => Res.stuck
  | n_ + 1, value_ => m_u_part_count_b (m_u_part_count n_) value_
theorem ok_u_part_count {P : Program} {w : World} {K : PySem.W.Frag} {mg : Str → Option Value} {base : Heap} (T : Facts P w K mg) {fd : FuncData} (F : FnP K "_part_count" "_part_count" s_u_part_count (He.ga K "_part_count") fd) : ∀ n_ : Nat,
    FnOk P w K mg base (L2.CX P w) (0 + n_) (He.ga K "_part_count") fd ["value"] (spM K (fun (p : D × Unit) => m_u_part_count n_ p.1)) := by
  have b_u_part_count : Binds K fd ["value"] [] := F.bindsN fun _ _ _ _ _ _ us hl => match us, hl with | [_], _ => rfl
  have F_u_part_count := F
  intro n_
  induction n_ with
  | zero => exact fnok_stuck _ (fun _ => rfl)
  | succ n_ G_u_part_count =>
  refine fn_ok (k := 0 + n_) F sc_u_part_count (fun y => rfl) (fun cdv A outer s H E hr => ?_)
  refine ⟨_, (pss_cons (ps_if (pt_not (pt_val (pe_callB call_isi (by rfl) T.n_isinstance (by decide +kernel) (pa_cons (pv 0) (pa_cons (pe_bltn (v := .ty "tuple") (by rfl) T.n_tuple (by decide +kernel) rfl) pa_nil))))) (pss_one (ps_ret pe_int)) pss_nil) (pss_one (ps_ret (pe_op op_add pe_int (pe_callB (cr_sum rfl) (by rfl) T.n_sum (by decide +kernel) (pa_cons (pe_lc (own := [("item", 1)]) rfl sc_u_part_count.nd (pi_tup (pv 0)) (blkOk_by (own := [("item", 1)]) (N := ["value", "item"]) (sc := defScope s_u_part_count) (by decide +kernel)) (fun _ _ _ _ _ => (pg_name (i := 1) sc_u_part_count.nd rfl (Or.inl rfl))) (fun _ _ _ _ _ => pts_nil) (fun _ _ _ _ _ => (pe_call G_u_part_count (hr.mono (by omega)) rfl T.g_u_part_count F_u_part_count.kp b_u_part_count .nil passL (pa_cons (pv 1) pa_nil)))) pa_nil)))))), ?_⟩
  rintro ⟨value_, ⟨⟩⟩ F0 H0 Q KP L
  show Blk K F0 H0 KP _ [iM value_, none] (m_u_part_count_b (m_u_part_count n_) value_)
  unfold m_u_part_count_b
  have ht_ := ((et_not (et_B (ev_isi isi_tuple (ev_var (i := 0) (x := value_) rfl)))) : EvT K (W0 E) [iM value_, none] _ _)
  refine blk_seq (blk_if2 L trivial (by exact ht_) ?_ ?_)
  · have hr_ := ((ev_int (i := 1)) : EvX K (W0 E) [iM value_, none] _ _)
    exact blk_ret L trivial (by exact hr_)
  · refine blk_nil ?_
    try refine Blk.nx ?_
    have hr_ := ((ev_op (opx_I0 (g := fun i j => i + j)) mild_ok (ev_int (i := 1)) (ev_cb cx_sum (fun _ _ h => nomatch h) (ea_cons (ev_ofN (ev_comp (tst := fun (x58 : D) => Res.ok true) (el := fun (x58 : D) => ((m_u_part_count n_) x58).noexc) (ws := [1]) (ei_tup (ev_cast (f := D.asTu) asTu_ok asTu_x (ev_var (i := 0) (x := value_) rfl))) (fun _ => gx_name) (fun x58 => et_yes) (fun x58 => ((ev_call0 (f := (fun (p : D × Unit) => (m_u_part_count n_) p.1)) (ea_cons (ev_var (i := 1) (x := x58) rfl) ea_nil)) : EvX K WT [iM value_, iM x58] _ _)))) ea_nil))) : EvX K (W0 E) [iM value_, none] _ _)
    exact blk_ret L trivial (by exact hr_)
noncomputable def m_u_tree_value_b (rec_ : Int → (List Int) → Int → Res D) (tag_ : Int) (content_ : (List Int)) (levels_ : Int) : Res D :=
  ((Res.ok (decide (tag_ = (2 : Int))))).bind fun b => cond b   ((m_u_number content_).bind fun (x : Int) => Res.ok (toD x))   (((Res.ok (!decide (tag_ = (48 : Int))))).bind fun b => cond b   (Res.exc "Malformed")   (((Res.ok (decide (levels_ = (0 : Int))))).bind fun b => cond b   (Res.exc "Malformed")   ((((m_u_split_parts content_).bind fun (xs65 : List (T2 Int (List Int))) => Res.need (xs65.length ≤ 16777216) (compL (fun (x64 : (T2 Int (List Int))) => Res.ok true) (fun (x64 : (T2 Int (List Int))) => rec_ x64.a x64.b (levels_ - (1 : Int))) xs65)).bind fun (t66 : (List D)) => Res.ok (Tu.mk t66)).bind fun (x : (Tu D)) => Res.ok (toD x))))
noncomputable def m_u_tree_value : Nat → Int → (List Int) → Int → Res D
  | 0, _, _, _ => Res.stuck
  | n_ + 1, tag_, content_, levels_ => m_u_tree_value_b (m_u_tree_value n_) tag_ content_ levels_
theorem ok_u_tree_value {P : Program} {w : World} {K : PySem.W.Frag} {mg : Str → Option Value} {base : Heap} (T : Facts P w K mg) {fd : FuncData} (F : FnP K "_tree_value" "_tree_value" s_u_tree_value (He.ga K "_tree_value") fd) : ∀ n_ : Nat,
    FnOk P w K mg base (L2.CX P w) (5 + n_) (He.ga K "_tree_value") fd ["tag", "content", "levels"] (spM K (fun (p : Int × (List Int) × Int × Unit) => m_u_tree_value n_ p.1 p.2.1 p.2.2.1)) := by
  obtain ⟨fd_u_number, F_u_number⟩ := T.d_u_number
  have G_u_number := ok_u_number (P := P) (w := w) (base := base) T F_u_number
  have b_u_number : Binds K fd_u_number ["content"] [] := F_u_number.bindsN fun _ _ _ _ _ _ us hl => match us, hl with | [_], _ => rfl
  obtain ⟨fd_u_split_parts, F_u_split_parts⟩ := T.d_u_split_parts
  have G_u_split_parts := ok_u_split_parts (P := P) (w := w) (base := base) T F_u_split_parts
  have b_u_split_parts : Binds K fd_u_split_parts ["data"] [] := F_u_split_parts.bindsN fun _ _ _ _ _ _ us hl => match us, hl with | [_], _ => rfl
  have b_u_tree_value : Binds K fd ["tag", "content", "levels"] [] := F.bindsN fun _ _ _ _ _ _ us hl => match us, hl with | [_, _, _], _ => rfl
  have F_u_tree_value := F
  intro n_
  induction n_ with
  | zero => exact fnok_stuck _ (fun _ => rfl)
  | succ n_ G_u_tree_value =>
  refine fn_ok (k := 5 + n_) F sc_u_tree_value (fun y => rfl) (fun cdv A outer s H E hr => ?_)
  refine ⟨_, (pss_cons (ps_if (pt_cmpR op_eq (pv 0) (pe_glob (v := .int 2) rfl T.c_NUMBER_TAG.choose_spec ⟨_, rfl⟩) (nomark _)) (pss_one (ps_ret (pe_callS G_u_number (hr.mono (by omega)) rfl T.g_u_number F_u_number.kp b_u_number (fun σ => passAt (takes_of rfl rfl rfl rfl) σ) (pa_cons (pv 1) pa_nil)))) pss_nil) (pss_cons (ps_if (pt_cmpR op_ne (pv 0) (pe_glob (v := .int 48) rfl T.c_SEQUENCE_TAG.choose_spec ⟨_, rfl⟩) (nomark _)) (pss_one (ps_raise rfl (takes_of rfl rfl rfl rfl) (pmk_own PySem.F.excBase_ValueError T.x_Malformed T.g_Malformed T.k_Malformed (raises_own T.b_Malformed T.t_Malformed) rfl))) pss_nil) (pss_cons (ps_if (pt_cmpR op_eq (pv 2) pe_int (nomark _)) (pss_one (ps_raise rfl (takes_of rfl rfl rfl rfl) (pmk_own PySem.F.excBase_ValueError T.x_Malformed T.g_Malformed T.k_Malformed (raises_own T.b_Malformed T.t_Malformed) rfl))) pss_nil) (pss_one (ps_ret (pe_callTy call_tuple_of (by rfl) T.n_tuple (by decide +kernel) (pa_cons (pe_lcE (own := [("inner", 3), ("part", 4)]) rfl rfl (takes_of rfl rfl rfl rfl) rfl sc_u_tree_value.nd (pi_list (pe_callS G_u_split_parts (hr.mono (by omega)) rfl T.g_u_split_parts F_u_split_parts.kp b_u_split_parts (fun σ => passAt (takes_of rfl rfl rfl rfl) σ) (pa_cons (pv 1) pa_nil))) (blkOk_by (own := [("inner", 3), ("part", 4)]) (N := ["tag", "content", "levels", "inner", "part"]) (sc := defScope s_u_tree_value) (by decide +kernel)) (fun _ _ _ _ _ => (pg_tupK (n := 2) rfl rfl (pgs_cons (pg_name (i := 3) sc_u_tree_value.nd rfl (Or.inl rfl)) (pgs_cons (pg_name (i := 4) sc_u_tree_value.nd rfl (Or.inl rfl)) pgs_nil)))) (fun _ _ _ _ _ => pts_nil) (fun _ _ _ _ _ px_ => (pe_callS G_u_tree_value (hr.mono (by omega)) rfl T.g_u_tree_value F_u_tree_value.kp b_u_tree_value px_ (pa_cons (pv 3) (pa_cons (pv 4) (pa_cons (pe_op op_sub (pv 2) pe_int) pa_nil)))))) pa_nil))))))), ?_⟩
  rintro ⟨tag_, content_, levels_, ⟨⟩⟩ F0 H0 Q KP L
  show Blk K F0 H0 KP _ [iM tag_, iM content_, iM levels_, none, none] (m_u_tree_value_b (m_u_tree_value n_) tag_ content_ levels_)
  unfold m_u_tree_value_b
  have ht_ := ((et_test (ev_op opx_eqI mild_ok (ev_var (i := 0) (x := tag_) rfl) (ev_int (i := 2)))) : EvT K (W0 E) [iM tag_, iM content_, iM levels_, none, none] _ _)
  refine blk_seq (blk_if2 L trivial (by exact ht_) ?_ ?_)
  · have hr_ := ((ev_as (ev_call (f := (fun (p : (List Int) × Unit) => m_u_number p.1)) (ea_cons (ev_var (i := 1) (x := content_) rfl) ea_nil)) toD (fun _ => rfl) rfl) : EvX K (W0 E) [iM tag_, iM content_, iM levels_, none, none] _ _)
    exact blk_ret L trivial (by exact hr_)
  · refine blk_nil ?_
    try refine Blk.nx ?_
    have ht_ := ((et_test (ev_op opx_neI mild_ok (ev_var (i := 0) (x := tag_) rfl) (ev_int (i := 48)))) : EvT K (W0 E) [iM tag_, iM content_, iM levels_, none, none] _ _)
    refine blk_seq (blk_if2 L trivial (by exact ht_) ?_ ?_)
    · exact blk_raise L trivial
    · refine blk_nil ?_
      try refine Blk.nx ?_
      have ht_ := ((et_test (ev_op opx_eqI mild_ok (ev_var (i := 2) (x := levels_) rfl) (ev_int (i := 0)))) : EvT K (W0 E) [iM tag_, iM content_, iM levels_, none, none] _ _)
      refine blk_seq (blk_if2 L trivial (by exact ht_) ?_ ?_)
      · exact blk_raise L trivial
      · refine blk_nil ?_
        try refine Blk.nx ?_
        have hr_ := ((ev_as (ev_tupleL (ev_ofN (ev_compE (tst := fun (x64 : (T2 Int (List Int))) => Res.ok true) (el := fun (x64 : (T2 Int (List Int))) => (m_u_tree_value n_) x64.a x64.b (levels_ - (1 : Int))) (ws := [3, 4]) (ei_list (ev_call (f := (fun (p : (List Int) × Unit) => m_u_split_parts p.1)) (ea_cons (ev_var (i := 1) (x := content_) rfl) ea_nil))) (fun _ => (gx_tup (n := 2) (gxs_cons gx_name (gxs_cons gx_name gxs_nil)) rfl)) (fun x64 => et_yes) (fun x64 => ((ev_call (f := (fun (p : Int × (List Int) × Int × Unit) => (m_u_tree_value n_) p.1 p.2.1 p.2.2.1)) (ea_cons (ev_var (i := 3) (x := x64.a) rfl) (ea_cons (ev_var (i := 4) (x := x64.b) rfl) (ea_cons (ev_op (opx_I0 (g := fun i j => i - j)) mild_ok (ev_var (i := 2) (x := levels_) rfl) (ev_int (i := 1))) ea_nil)))) : EvX K (W0 E) [iM tag_, iM content_, iM levels_, iM x64.a, iM x64.b] _ _))))) toD (fun _ => rfl) rfl) : EvX K (W0 E) [iM tag_, iM content_, iM levels_, none, none] _ _)
        exact blk_ret L trivial (by exact hr_)
noncomputable def m_read_tree (data_ : D) : Res D :=
  (m_u_only_part data_).bind fun (u67 : (T2 Int (List Int))) =>   (fun (tag_ : Int) (content_ : (List Int)) => (m_u_tree_value 9 tag_ content_ (8 : Int)).bind fun (value_ : D) =>   ((m_u_part_count 10 value_).bind fun (t68 : Int) => Res.ok (decide ((64 : Int) < t68))).bind fun b => cond b   (Res.exc "Malformed")   ((Res.ok value_))) u67.a u67.b
theorem ok_read_tree {P : Program} {w : World} {K : PySem.W.Frag} {mg : Str → Option Value} {base : Heap} (T : Facts P w K mg) {fd : FuncData} (F : FnP K "read_tree" "read_tree" s_read_tree (He.ga K "read_tree") fd) :
    FnOk P w K mg base (L2.CX P w) 15 (He.ga K "read_tree") fd ["data"] (spM K (fun (p : D × Unit) => m_read_tree p.1)) := by
  obtain ⟨fd_u_only_part, F_u_only_part⟩ := T.d_u_only_part
  have G_u_only_part := ok_u_only_part (P := P) (w := w) (base := base) T F_u_only_part
  have b_u_only_part : Binds K fd_u_only_part ["data"] [] := F_u_only_part.bindsN fun _ _ _ _ _ _ us hl => match us, hl with | [_], _ => rfl
  obtain ⟨fd_u_part_count, F_u_part_count⟩ := T.d_u_part_count
  have G_u_part_count := ok_u_part_count (P := P) (w := w) (base := base) T F_u_part_count 10
  have b_u_part_count : Binds K fd_u_part_count ["value"] [] := F_u_part_count.bindsN fun _ _ _ _ _ _ us hl => match us, hl with | [_], _ => rfl
  obtain ⟨fd_u_tree_value, F_u_tree_value⟩ := T.d_u_tree_value
  have G_u_tree_value := ok_u_tree_value (P := P) (w := w) (base := base) T F_u_tree_value 9
  have b_u_tree_value : Binds K fd_u_tree_value ["tag", "content", "levels"] [] := F_u_tree_value.bindsN fun _ _ _ _ _ _ us hl => match us, hl with | [_, _, _], _ => rfl
  refine fn_ok F sc_read_tree (fun y => rfl) (fun cdv A outer s H E hr => ?_)
  refine ⟨_, (pss_cons (ps_asg (pe_callS G_u_only_part (hr.mono (by decide)) rfl T.g_u_only_part F_u_only_part.kp b_u_only_part (fun σ => passAt (takes_of rfl rfl rfl rfl) σ) (pa_cons (pv 0) pa_nil)) (pg_tup rfl (pgs_cons (pg_name (i := 1) sc_read_tree.nd rfl (Or.inl rfl)) (pgs_cons (pg_name (i := 2) sc_read_tree.nd rfl (Or.inl rfl)) pgs_nil)))) (pss_cons (ps_set (i := 3) sc_read_tree.nd rfl (Or.inl rfl) (pe_callS G_u_tree_value (hr.mono (by decide)) rfl T.g_u_tree_value F_u_tree_value.kp b_u_tree_value (fun σ => passAt (takes_of rfl rfl rfl rfl) σ) (pa_cons (pv 1) (pa_cons (pv 2) (pa_cons (pe_glob (v := .int 8) rfl T.c_MOST_LEVELS.choose_spec ⟨_, rfl⟩) pa_nil))))) (pss_cons (ps_if (pt_cmpR op_gt (pe_callS G_u_part_count (hr.mono (by decide)) rfl T.g_u_part_count F_u_part_count.kp b_u_part_count (fun σ => passAt (takes_of rfl rfl rfl rfl) σ) (pa_cons (pv 3) pa_nil)) (pe_glob (v := .int 64) rfl T.c_MOST_PARTS.choose_spec ⟨_, rfl⟩) (nomark _)) (pss_one (ps_raise rfl (takes_of rfl rfl rfl rfl) (pmk_own PySem.F.excBase_ValueError T.x_Malformed T.g_Malformed T.k_Malformed (raises_own T.b_Malformed T.t_Malformed) rfl))) pss_nil) (pss_one (ps_ret (pv 3)))))), ?_⟩
  rintro ⟨data_, ⟨⟩⟩ F0 H0 Q KP L
  show Blk K F0 H0 KP _ [iM data_, none, none, none] (m_read_tree data_)
  unfold m_read_tree
  have hs_ := ((ev_call (f := (fun (p : D × Unit) => m_u_only_part p.1)) (ea_cons (ev_var (i := 0) (x := data_) rfl) ea_nil)) : EvX K (W0 E) [iM data_, none, none, none] _ _)
  refine blk_seq (blk_asg L trivial (by exact hs_) (fun _ => (gx_tup (n := 2) (gxs_cons gx_name (gxs_cons gx_name gxs_nil)) rfl)) fun u67 => ?_)
  show Blk _ _ _ _ _ [iM data_, iM u67.a, iM u67.b, none] ((fun (tag_ : Int) (content_ : (List Int)) => _) u67.a u67.b)
  generalize u67.a = tag_
  generalize u67.b = content_
  show Blk _ _ _ _ _ [iM data_, iM tag_, iM content_, none] _
  try refine Blk.nx ?_
  have hs_ := ((ev_call (f := (fun (p : Int × (List Int) × Int × Unit) => m_u_tree_value 9 p.1 p.2.1 p.2.2.1)) (ea_cons (ev_var (i := 1) (x := tag_) rfl) (ea_cons (ev_var (i := 2) (x := content_) rfl) (ea_cons (ev_int (i := 8)) ea_nil)))) : EvX K (W0 E) [iM data_, iM tag_, iM content_, none] _ _)
  refine blk_seq (blk_set (i := 3) L trivial (by exact hs_) fun value_ => ?_)
  show Blk _ _ _ _ _ [iM data_, iM tag_, iM content_, iM value_] _
  try refine Blk.nx ?_
  have ht_ := ((et_test (ev_op (opx_B0 (g := fun i j => decide (j < i))) mild_ok (ev_call (f := (fun (p : D × Unit) => m_u_part_count 10 p.1)) (ea_cons (ev_var (i := 3) (x := value_) rfl) ea_nil)) (ev_int (i := 64)))) : EvT K (W0 E) [iM data_, iM tag_, iM content_, iM value_] _ _)
  refine blk_seq (blk_if2 L trivial (by exact ht_) ?_ ?_)
  · exact blk_raise L trivial
  · refine blk_nil ?_
    try refine Blk.nx ?_
    have hr_ := ((ev_var (i := 3) (x := value_) rfl) : EvX K (W0 E) [iM data_, iM tag_, iM content_, iM value_] _ _)
    exact blk_ret L trivial (by exact hr_)
noncomputable def m_u_law_cell (script_ : (Ro Int)) (k_ : Int) : Res Int :=
  ((Res.ok (decide (k_ < ((script_).xs.length : Int))))).bind fun b => cond b   (((idx (script_).xs k_).bind fun a69 => Res.ok (a69, ())).bind fun p71 => Res.ok p71.1)   ((Res.ok (0 : Int)))
theorem ok_u_law_cell {P : Program} {w : World} {K : PySem.W.Frag} {mg : Str → Option Value} {base : Heap} (T : Facts P w K mg) {fd : FuncData} (F : FnP K "_law_cell" "_law_cell" s_u_law_cell (He.ga K "_law_cell") fd) :
    FnOk P w K mg base (L2.CX P w) 1 (He.ga K "_law_cell") fd ["script", "k"] (spM K (fun (p : (Ro Int) × Int × Unit) => m_u_law_cell p.1 p.2.1)) := by
  refine fn_ok F sc_u_law_cell (fun y => rfl) (fun cdv A outer s H E hr => ?_)
  refine ⟨_, (pss_cons (ps_if (pt_cmpR op_lt (pv 1) (pe_callB (cr_len rfl) (by rfl) T.n_len (by decide +kernel) (pa_cons (pv 0) pa_nil)) (nomark _)) (pss_one (ps_ret (pe_callTy call_int1 (by rfl) T.n_int (by decide +kernel) (pa_cons (pe_ix (cr_ixL rfl) (pv 0) (pv 1) (fun _ _ => rfl)) pa_nil)))) pss_nil) (pss_one (ps_ret pe_int))), ?_⟩
  rintro ⟨script_, k_, ⟨⟩⟩ F0 H0 Q KP L
  show Blk K F0 H0 KP _ [iM script_, iM k_] (m_u_law_cell script_ k_)
  unfold m_u_law_cell
  have ht_ := ((et_test (ev_op (opx_B0 (g := fun i j => decide (i < j))) mild_ok (ev_var (i := 1) (x := k_) rfl) (ev_cb cx_lenRo (fun _ _ h => nomatch h) (ea_cons (ev_var (i := 0) (x := script_) rfl) ea_nil)))) : EvT K (W0 E) [iM script_, iM k_] _ _)
  refine blk_seq (blk_if2 L trivial (by exact ht_) ?_ ?_)
  · have hr_ := ((ev_cb cx_int (fun _ _ h => nomatch h) (ea_cons (ev_op opx_ixR (fun x y => idx_mild x.xs y) (ev_var (i := 0) (x := script_) rfl) (ev_var (i := 1) (x := k_) rfl)) ea_nil)) : EvX K (W0 E) [iM script_, iM k_] _ _)
    exact blk_ret L trivial (by exact hr_)
  · refine blk_nil ?_
    try refine Blk.nx ?_
    have hr_ := ((ev_int (i := 0)) : EvX K (W0 E) [iM script_, iM k_] _ _)
    exact blk_ret L trivial (by exact hr_)
noncomputable def m_u_law_twice (cell_ : Int) (k_ : Int) : Res Int :=
  ((Res.ok ((((cell_ * (48271 : Int)) + (k_ * (69621 : Int))) + (7 : Int)) % (2147483647 : Int)))).bind fun (x_ : Int) =>   ((((Res.need (CMulX x_ x_) (Res.ok (x_ * x_))).bind fun (t72 : Int) => Res.ok (t72 + (k_ * (40692 : Int)))).bind fun (t73 : Int) => Res.ok (t73 + (3 : Int))).bind fun (t74 : Int) => Res.ok (t74 % (2147483629 : Int))).bind fun (x_ : Int) =>   ((((Res.need (CMulX x_ x_) (Res.ok (x_ * x_))).bind fun (t75 : Int) => Res.ok (t75 + (k_ * (30269 : Int)))).bind fun (t76 : Int) => Res.ok (t76 + (5 : Int))).bind fun (t77 : Int) => Res.ok (t77 % (2147483587 : Int))).bind fun (x_ : Int) =>   (Res.ok (x_ / (64 : Int)))
theorem ok_u_law_twice {P : Program} {w : World} {K : PySem.W.Frag} {mg : Str → Option Value} {base : Heap} (T : Facts P w K mg) {fd : FuncData} (F : FnP K "_law_twice" "_law_twice" s_u_law_twice (He.ga K "_law_twice") fd) :
    FnOk P w K mg base (L2.CX P w) 1 (He.ga K "_law_twice") fd ["cell", "k"] (spM K (fun (p : Int × Int × Unit) => m_u_law_twice p.1 p.2.1)) := by
  refine fn_ok F sc_u_law_twice (fun y => rfl) (fun cdv A outer s H E hr => ?_)
  refine ⟨_, (pss_cons (ps_set (i := 2) sc_u_law_twice.nd rfl (Or.inl rfl) (pe_op op_mod (pe_op op_add (pe_op op_add (pe_op op_mul (pe_callTy call_int1 (by rfl) T.n_int (by decide +kernel) (pa_cons (pv 0) pa_nil)) pe_int) (pe_op op_mul (pv 1) pe_int)) pe_int) pe_int)) (pss_cons (ps_set (i := 2) sc_u_law_twice.nd rfl (Or.inl rfl) (pe_op op_mod (pe_op op_add (pe_op op_add (pe_op op_mulX (pv 2) (pv 2)) (pe_op op_mul (pv 1) pe_int)) pe_int) pe_int)) (pss_cons (ps_set (i := 2) sc_u_law_twice.nd rfl (Or.inl rfl) (pe_op op_mod (pe_op op_add (pe_op op_add (pe_op op_mulX (pv 2) (pv 2)) (pe_op op_mul (pv 1) pe_int)) pe_int) pe_int)) (pss_one (ps_ret (pe_op op_fdiv (pv 2) pe_int)))))), ?_⟩
  rintro ⟨cell_, k_, ⟨⟩⟩ F0 H0 Q KP L
  show Blk K F0 H0 KP _ [iM cell_, iM k_, none] (m_u_law_twice cell_ k_)
  unfold m_u_law_twice
  have hs_ := ((ev_opI (C := (fun _ j => 0 < j)) (g := fun i j => i % j) (fun x y _ h => by cases h; (show (0 : Int) < _; decide)) (ev_op (opx_I0 (g := fun i j => i + j)) mild_ok (ev_op (opx_I0 (g := fun i j => i + j)) mild_ok (ev_opI (C := CMul) (g := fun i j => i * j) (fun x y _ h => by cases h; exact .inr (by decide)) (ev_cb cx_int (fun _ _ h => nomatch h) (ea_cons (ev_var (i := 0) (x := cell_) rfl) ea_nil)) (ev_int (i := 48271))) (ev_opI (C := CMul) (g := fun i j => i * j) (fun x y _ h => by cases h; exact .inr (by decide)) (ev_var (i := 1) (x := k_) rfl) (ev_int (i := 69621)))) (ev_int (i := 7))) (ev_int (i := 2147483647))) : EvX K (W0 E) [iM cell_, iM k_, none] _ _)
  refine blk_seq (blk_set (i := 2) L trivial (by exact hs_) fun x_ => ?_)
  show Blk _ _ _ _ _ [iM cell_, iM k_, iM x_] _
  try refine Blk.nx ?_
  have hs_ := ((ev_opI (C := (fun _ j => 0 < j)) (g := fun i j => i % j) (fun x y _ h => by cases h; (show (0 : Int) < _; decide)) (ev_op (opx_I0 (g := fun i j => i + j)) mild_ok (ev_op (opx_I0 (g := fun i j => i + j)) mild_ok (ev_op (opx_I (C := CMulX) (g := fun i j => i * j)) mild_need (ev_var (i := 2) (x := x_) rfl) (ev_var (i := 2) (x := x_) rfl)) (ev_opI (C := CMul) (g := fun i j => i * j) (fun x y _ h => by cases h; exact .inr (by decide)) (ev_var (i := 1) (x := k_) rfl) (ev_int (i := 40692)))) (ev_int (i := 3))) (ev_int (i := 2147483629))) : EvX K (W0 E) [iM cell_, iM k_, iM x_] _ _)
  refine blk_seq (blk_set (i := 2) L trivial (by exact hs_) fun x_ => ?_)
  show Blk _ _ _ _ _ [iM cell_, iM k_, iM x_] _
  try refine Blk.nx ?_
  have hs_ := ((ev_opI (C := (fun _ j => 0 < j)) (g := fun i j => i % j) (fun x y _ h => by cases h; (show (0 : Int) < _; decide)) (ev_op (opx_I0 (g := fun i j => i + j)) mild_ok (ev_op (opx_I0 (g := fun i j => i + j)) mild_ok (ev_op (opx_I (C := CMulX) (g := fun i j => i * j)) mild_need (ev_var (i := 2) (x := x_) rfl) (ev_var (i := 2) (x := x_) rfl)) (ev_opI (C := CMul) (g := fun i j => i * j) (fun x y _ h => by cases h; exact .inr (by decide)) (ev_var (i := 1) (x := k_) rfl) (ev_int (i := 30269)))) (ev_int (i := 5))) (ev_int (i := 2147483587))) : EvX K (W0 E) [iM cell_, iM k_, iM x_] _ _)
  refine blk_seq (blk_set (i := 2) L trivial (by exact hs_) fun x_ => ?_)
  show Blk _ _ _ _ _ [iM cell_, iM k_, iM x_] _
  try refine Blk.nx ?_
  have hr_ := ((ev_opI (C := CDiv) (g := fun i j => i / j) (fun x y _ h => by cases h; exact ⟨by decide, by decide⟩) (ev_var (i := 2) (x := x_) rfl) (ev_int (i := 64))) : EvX K (W0 E) [iM cell_, iM k_, iM x_] _ _)
  exact blk_ret L trivial (by exact hr_)
noncomputable def m_u_law_bytes_l1 (cell_ : Int) (great_ : Bool) (k1 : Int × (List Int) → Res (List Int)) : List Int → Int × (List Int) → Res (List Int)
  | [], s => k1 s
  | x78 :: r1, (left_, data_) =>   (fun (k_ : Int) => (cond great_ ((Res.ok (decide ((0 : Int) < left_)))) (Res.ok false)).bind fun b => cond b   (((Res.ok (left_ % (256 : Int)))).bind fun (y79 : Int) => Res.need (data_.length < 16777216) ((fun (data_ : (List Int)) =>   ((Res.ok (left_ / (256 : Int)))).bind fun (left_ : Int) =>   m_u_law_bytes_l1 cell_ great_ k1 r1 (left_, data_)) (data_ ++ [y79])))   (((m_u_law_twice cell_ k_).bind fun (t81 : Int) => Res.ok (t81 % (256 : Int))).bind fun (y82 : Int) => Res.need (data_.length < 16777216) ((fun (data_ : (List Int)) =>   m_u_law_bytes_l1 cell_ great_ k1 r1 (left_, data_)) (data_ ++ [y82])))) x78
noncomputable def m_u_law_bytes_k2 : Int × (List Int) → Res (List Int) := fun (left_, data_) =>   (Res.ok data_)
noncomputable def m_u_law_bytes (cell_ : Int) (size_ : Int) : Res (List Int) :=
  ((Res.ok (Int.natAbs cell_ : Int))).bind fun (left_ : Int) =>   ((Res.ok (decide (((10 : Int) ^ (18 : Int).toNat) ≤ left_)))).bind fun (great_ : Bool) =>   ((Res.ok ([] : List Int))).bind fun (data_ : (List Int)) =>   (Res.need (okRange size_) (Res.ok (pyRange 0 size_))).bind fun (xs84 : List Int) => m_u_law_bytes_l1 cell_ great_ (m_u_law_bytes_k2) xs84 (left_, data_)
theorem ok_u_law_bytes {P : Program} {w : World} {K : PySem.W.Frag} {mg : Str → Option Value} {base : Heap} (T : Facts P w K mg) {fd : FuncData} (F : FnP K "_law_bytes" "_law_bytes" s_u_law_bytes (He.ga K "_law_bytes") fd) :
    FnOk P w K mg base (L2.CX P w) 2 (He.ga K "_law_bytes") fd ["cell", "size"] (spM K (fun (p : Int × Int × Unit) => m_u_law_bytes p.1 p.2.1)) := by
  obtain ⟨fd_u_law_twice, F_u_law_twice⟩ := T.d_u_law_twice
  have G_u_law_twice := ok_u_law_twice (P := P) (w := w) (base := base) T F_u_law_twice
  have b_u_law_twice : Binds K fd_u_law_twice ["cell", "k"] [] := F_u_law_twice.bindsN fun _ _ _ _ _ _ us hl => match us, hl with | [_, _], _ => rfl
  refine fn_ok F sc_u_law_bytes (fun y => rfl) (fun cdv A outer s H E hr => ?_)
  refine ⟨_, (pss_cons (ps_set (i := 2) sc_u_law_bytes.nd rfl (Or.inl rfl) (pe_callB call_abs (by rfl) T.n_abs (by decide +kernel) (pa_cons (pe_callTy call_int1 (by rfl) T.n_int (by decide +kernel) (pa_cons (pv 0) pa_nil)) pa_nil))) (pss_cons (ps_set (i := 3) sc_u_law_bytes.nd rfl (Or.inl rfl) (pe_cmpR op_ge (pv 2) (pe_op op_pow pe_int pe_int) (nomark _))) (pss_cons (ps_set (i := 4) sc_u_law_bytes.nd rfl (Or.inl rfl) (pe_lst pa_nil)) (pss_cons (ps_for (passes_of rfl) rfl (pi_range1 rfl T.n_range (pa_cons (pv 1) pa_nil)) (pg_name (i := 5) sc_u_law_bytes.nd rfl (Or.inl rfl)) (pss_one (ps_if (PW.pt (pw_and (pt_val (pv 3)) (pw_and1 (pt_cmpR op_gt (pv 2) pe_int (nomark _))))) (pss_cons (ps_expr (pe_bm PySem.F.plainAttrs_list PySem.F.slot_list_append PySem.F.type_list_append mt_append (pv 4) (pa_cons (pe_op op_mod (pv 2) pe_int) pa_nil))) (pss_one (ps_set (i := 2) sc_u_law_bytes.nd rfl (Or.inl rfl) (pe_op op_fdiv (pv 2) pe_int)))) (pss_one (ps_expr (pe_bm PySem.F.plainAttrs_list PySem.F.slot_list_append PySem.F.type_list_append mt_append (pv 4) (pa_cons (pe_op op_mod (pe_callS G_u_law_twice (hr.mono (by decide)) rfl T.g_u_law_twice F_u_law_twice.kp b_u_law_twice (fun σ => passAt (takes_of rfl rfl rfl rfl) σ) (pa_cons (pv 0) (pa_cons (pv 5) pa_nil))) pe_int) pa_nil))))))) (pss_one (ps_ret (pv 4))))))), ?_⟩
  rintro ⟨cell_, size_, ⟨⟩⟩ F0 H0 Q KP L
  show Blk K F0 H0 KP _ [iM cell_, iM size_, none, none, none, none] (m_u_law_bytes cell_ size_)
  unfold m_u_law_bytes
  have hs_ := ((ev_cb cx_abs (fun _ _ h => nomatch h) (ea_cons (ev_cb cx_int (fun _ _ h => nomatch h) (ea_cons (ev_var (i := 0) (x := cell_) rfl) ea_nil)) ea_nil)) : EvX K (W0 E) [iM cell_, iM size_, none, none, none, none] _ _)
  refine blk_seq (blk_set (i := 2) L trivial (by exact hs_) fun left_ => ?_)
  show Blk _ _ _ _ _ [iM cell_, iM size_, iM left_, none, none, none] _
  try refine Blk.nx ?_
  have hs_ := ((ev_op (opx_B0 (g := fun i j => decide (j ≤ i))) mild_ok (ev_var (i := 2) (x := left_) rfl) (ev_opI (C := CPow) (g := fun i j => i ^ j.toNat) (fun x y h1 h2 => by cases h1; cases h2; exact ⟨by decide, by decide, by decide⟩) (ev_int (i := 10)) (ev_int (i := 18)))) : EvX K (W0 E) [iM cell_, iM size_, iM left_, none, none, none] _ _)
  refine blk_seq (blk_set (i := 3) L trivial (by exact hs_) fun great_ => ?_)
  show Blk _ _ _ _ _ [iM cell_, iM size_, iM left_, iM great_, none, none] _
  try refine Blk.nx ?_
  have hs_ := ((en_lst (f := (fun y => ([] : List Int))) ea_nil (fun _ => rfl) (fun _ => by show 0 ≤ 100000; decide)) : EvN K (W0 E) [iM cell_, iM size_, iM left_, iM great_, none, none] _ _)
  refine blk_seq (blk_own (i := 4) L trivial (by exact hs_) fun data_ => ?_)
  show Blk _ _ _ _ _ [iM cell_, iM size_, iM left_, iM great_, oW data_, none] _
  try refine Blk.nx ?_
  have hi_ := ((ei_range1 (ev_var (i := 1) (x := size_) rfl)) : EvI K (W0 E) [iM cell_, iM size_, iM left_, iM great_, oW data_, none] _ _)
  refine blk_seq (blk_for (S := Int × (List Int)) (m_u_law_bytes_l1 cell_ great_ (m_u_law_bytes_k2)) (m_u_law_bytes_k2) (fun (left_, data_) => [iM cell_, iM size_, iM left_, iM great_, oW data_, none]) (left_, data_) L trivial (by exact hi_) (fun _ => gx_name) (.same (.same (.same (.same (.same (.same .nil)))))) (fun _ => rfl) ?_ ?_)
  · intro F1 L1 hB1 x78 r1 s_ N_ hN1
    obtain ⟨left_, data_⟩ := s_
    show Blk _ _ _ _ _ [iM cell_, iM size_, iM left_, iM great_, oW data_, iM x78] (m_u_law_bytes_l1 cell_ great_ (m_u_law_bytes_k2) (x78 :: r1) (left_, data_))
    rw [m_u_law_bytes_l1]
    show Blk _ _ _ _ _ _ ((fun (k_ : Int) => _) x78)
    generalize x78 = k_
    show Blk _ _ _ _ _ [iM cell_, iM size_, iM left_, iM great_, oW data_, iM k_] _
    have ht_ := ((et_and (et_B (ev_var (i := 3) (x := great_) rfl)) (et_test (ev_op (opx_B0 (g := fun i j => decide (j < i))) mild_ok (ev_var (i := 2) (x := left_) rfl) (ev_int (i := 0))))) : EvT K (W0 E) [iM cell_, iM size_, iM left_, iM great_, oW data_, iM k_] _ _)
    refine blk_if2 L1 trivial (by exact ht_) ?_ ?_
    · have hs_ := ((ev_opI (C := (fun _ j => 0 < j)) (g := fun i j => i % j) (fun x y _ h => by cases h; (show (0 : Int) < _; decide)) (ev_var (i := 2) (x := left_) rfl) (ev_int (i := 256))) : EvX K (W0 E) [iM cell_, iM size_, iM left_, iM great_, oW data_, iM k_] _ _)
      refine blk_seq (blk_app (i := 4) (xs := data_) L1 trivial rfl (by exact hs_) fun y80 => ?_)
      show Blk _ _ _ _ _ [iM cell_, iM size_, iM left_, iM great_, oW ((data_ ++ [y80])), iM k_] ((fun (data_ : (List Int)) => _) (data_ ++ [y80]))
      generalize data_ ++ [y80] = data_
      show Blk _ _ _ _ _ [iM cell_, iM size_, iM left_, iM great_, oW data_, iM k_] _
      try refine Blk.nx ?_
      have hs_ := ((ev_opI (C := CDiv) (g := fun i j => i / j) (fun x y _ h => by cases h; exact ⟨by decide, by decide⟩) (ev_var (i := 2) (x := left_) rfl) (ev_int (i := 256))) : EvX K (W0 E) [iM cell_, iM size_, iM left_, iM great_, oW data_, iM k_] _ _)
      refine blk_set (i := 2) L1 trivial (by exact hs_) fun left_ => ?_
      show Blk _ _ _ _ _ [iM cell_, iM size_, iM left_, iM great_, oW data_, iM k_] _
      try refine Blk.nx ?_
      exact (hN1 (left_, data_)).weak (.same (.same (.same (.same (.same (.drop .nil))))))
    · have hs_ := ((ev_opI (C := (fun _ j => 0 < j)) (g := fun i j => i % j) (fun x y _ h => by cases h; (show (0 : Int) < _; decide)) (ev_call (f := (fun (p : Int × Int × Unit) => m_u_law_twice p.1 p.2.1)) (ea_cons (ev_var (i := 0) (x := cell_) rfl) (ea_cons (ev_var (i := 5) (x := k_) rfl) ea_nil))) (ev_int (i := 256))) : EvX K (W0 E) [iM cell_, iM size_, iM left_, iM great_, oW data_, iM k_] _ _)
      refine blk_app (i := 4) (xs := data_) L1 trivial rfl (by exact hs_) fun y83 => ?_
      show Blk _ _ _ _ _ [iM cell_, iM size_, iM left_, iM great_, oW ((data_ ++ [y83])), iM k_] ((fun (data_ : (List Int)) => _) (data_ ++ [y83]))
      generalize data_ ++ [y83] = data_
      show Blk _ _ _ _ _ [iM cell_, iM size_, iM left_, iM great_, oW data_, iM k_] _
      try refine Blk.nx ?_
      exact (hN1 (left_, data_)).weak (.same (.same (.same (.same (.same (.drop .nil))))))
  · rintro ⟨left_, data_⟩
    show Blk _ _ _ _ _ [iM cell_, iM size_, iM left_, iM great_, oW data_, none] ((m_u_law_bytes_k2) (left_, data_))
    unfold m_u_law_bytes_k2
    try refine Blk.nx ?_
    refine blk_freeze 4 rfl ?_
    show Blk _ _ _ _ _ [iM cell_, iM size_, iM left_, iM great_, iM data_, none] _
    have hr_ := ((ev_var (i := 4) (x := data_) rfl) : EvX K (W0 E) [iM cell_, iM size_, iM left_, iM great_, iM data_, none] _ _)
    exact blk_ret L trivial (by exact hr_)
noncomputable def m_u_law_integer (x_ : D) : Res Bool :=
  (Res.need ((toD x_).plain = true) (Res.ok (isI "int" (toD x_)))).bind fun b86 => cond b86 ((Res.need ((toD x_).plain = true) (Res.ok (isI "bool" (toD x_)))).bind fun (t85 : Bool) => Res.ok (!t85)) (Res.ok false)
theorem ok_u_law_integer {P : Program} {w : World} {K : PySem.W.Frag} {mg : Str → Option Value} {base : Heap} (T : Facts P w K mg) {fd : FuncData} (F : FnP K "_law_integer" "_law_integer" s_u_law_integer (He.ga K "_law_integer") fd) :
    FnOk P w K mg base (L2.CX P w) 1 (He.ga K "_law_integer") fd ["x"] (spM K (fun (p : D × Unit) => m_u_law_integer p.1)) := by
  refine fn_ok F sc_u_law_integer (fun y => rfl) (fun cdv A outer s H E hr => ?_)
  refine ⟨_, (pss_one (ps_ret (pe_and (pe_callB call_isi (by rfl) T.n_isinstance (by decide +kernel) (pa_cons (pv 0) (pa_cons (pe_bltn (v := .ty "int") (by rfl) T.n_int (by decide +kernel) rfl) pa_nil))) (pe_one (pe_not (pe_callB call_isi (by rfl) T.n_isinstance (by decide +kernel) (pa_cons (pv 0) (pa_cons (pe_bltn (v := .ty "bool") (by rfl) T.n_bool (by decide +kernel) rfl) pa_nil)))))))), ?_⟩
  rintro ⟨x_, ⟨⟩⟩ F0 H0 Q KP L
  show Blk K F0 H0 KP _ [iM x_] (m_u_law_integer x_)
  unfold m_u_law_integer
  have hr_ := ((ev_andV (ev_isi isi_int (ev_var (i := 0) (x := x_) rfl)) (ev_notV (ev_isi isi_bool (ev_var (i := 0) (x := x_) rfl)))) : EvX K (W0 E) [iM x_] _ _)
  exact blk_ret L trivial (by exact hr_)
noncomputable def m_u_law_is_list_l2 (k2 : Unit → Res Bool) : List (T2 D Int) → Unit → Res Bool
  | [], s => k2 s
  | x94 :: r2, _ =>   (fun (one_ : D) (other_ : Int) => (((m_u_law_integer one_).bind fun (t95 : Bool) => Res.ok (!t95)).bind fun b96 => cond b96 (Res.ok true) (Res.need ((toD one_).okq = true ∧ (toD other_).okq = true) (Res.ok (!pyEq (toD one_) (toD other_))))).bind fun b => cond b   ((Res.ok false))   (m_u_law_is_list_l2 k2 r2 ())) x94.a x94.b
noncomputable def m_u_law_is_list_k3 : Unit → Res Bool := fun _ =>   (Res.ok true)
noncomputable def m_u_law_is_list (found_ : D) (due_ : (List Int)) : Res Bool :=
  (((Res.need ((toD found_).plain = true) (Res.ok (isI "list" (toD found_)))).bind fun (t87 : Bool) => Res.ok (!t87)).bind fun b90 => cond b90 (Res.ok true) ((((Res.ok found_)).bind fun (t88 : D) => D.lenR t88).bind fun (t89 : Int) => Res.ok (!decide (t89 = ((due_).length : Int))))).bind fun b => cond b   ((Res.ok false))   ((((((Res.ok found_)).bind D.asList).bind fun a91 => Res.ok (a91, (due_, ()))).bind fun p93 => Res.ok (List.zipWith T2.mk p93.1 p93.2.1)).bind fun (xs97 : List (T2 D Int)) => m_u_law_is_list_l2 (m_u_law_is_list_k3) xs97 ())
theorem ok_u_law_is_list {P : Program} {w : World} {K : PySem.W.Frag} {mg : Str → Option Value} {base : Heap} (T : Facts P w K mg) {fd : FuncData} (F : FnP K "_law_is_list" "_law_is_list" s_u_law_is_list (He.ga K "_law_is_list") fd) :
    FnOk P w K mg base (L2.CX P w) 2 (He.ga K "_law_is_list") fd ["found", "due"] (spM K (fun (p : D × (List Int) × Unit) => m_u_law_is_list p.1 p.2.1)) := by
  obtain ⟨fd_u_law_integer, F_u_law_integer⟩ := T.d_u_law_integer
  have G_u_law_integer := ok_u_law_integer (P := P) (w := w) (base := base) T F_u_law_integer
  have b_u_law_integer : Binds K fd_u_law_integer ["x"] [] := F_u_law_integer.bindsN fun _ _ _ _ _ _ us hl => match us, hl with | [_], _ => rfl
  refine fn_ok F sc_u_law_is_list (fun y => rfl) (fun cdv A outer s H E hr => ?_)
  refine ⟨_, (pss_cons (ps_if (PW.pt (pw_or (pt_not (pt_val (pe_callB call_isi (by rfl) T.n_isinstance (by decide +kernel) (pa_cons (pv 0) (pa_cons (pe_bltn (v := .ty "list") (by rfl) T.n_list (by decide +kernel) rfl) pa_nil))))) (pw_or1 (pt_cmpR op_ne (pe_callB (cr_len rfl) (by rfl) T.n_len (by decide +kernel) (pa_cons (pv 0) pa_nil)) (pe_callB (cr_len rfl) (by rfl) T.n_len (by decide +kernel) (pa_cons (pv 1) pa_nil)) (nomark _))))) (pss_one (ps_ret pe_bl)) pss_nil) (pss_cons (ps_for (passes_of rfl) rfl (pi_zipK rfl rfl T.n_zip (pa_cons (pv 0) (pa_cons (pv 1) pa_nil))) (pg_tup rfl (pgs_cons (pg_name (i := 2) sc_u_law_is_list.nd rfl (Or.inl rfl)) (pgs_cons (pg_name (i := 3) sc_u_law_is_list.nd rfl (Or.inl rfl)) pgs_nil))) (pss_one (ps_if (PW.pt (pw_or (pt_not (pt_val (pe_callS G_u_law_integer (hr.mono (by decide)) rfl T.g_u_law_integer F_u_law_integer.kp b_u_law_integer (fun σ => passAt (takes_of rfl rfl rfl rfl) σ) (pa_cons (pv 2) pa_nil)))) (pw_or1 (pt_cmpR (op_neD (Room.units hr)) (pv 2) (pv 3) (nomark _))))) (pss_one (ps_ret pe_bl)) pss_nil))) (pss_one (ps_ret pe_bl)))), ?_⟩
  rintro ⟨found_, due_, ⟨⟩⟩ F0 H0 Q KP L
  show Blk K F0 H0 KP _ [iM found_, iM due_, none, none] (m_u_law_is_list found_ due_)
  unfold m_u_law_is_list
  have ht_ := ((et_or (et_not (et_B (ev_isi isi_list (ev_var (i := 0) (x := found_) rfl)))) (et_test (ev_op opx_neI mild_ok (ev_lenD (ev_var (i := 0) (x := found_) rfl)) (ev_cb cx_len (fun _ _ h => nomatch h) (ea_cons (ev_var (i := 1) (x := due_) rfl) ea_nil))))) : EvT K (W0 E) [iM found_, iM due_, none, none] _ _)
  refine blk_seq (blk_if2 L trivial (by exact ht_) ?_ ?_)
  · have hr_ := ((ev_bl (b := false)) : EvX K (W0 E) [iM found_, iM due_, none, none] _ _)
    exact blk_ret L trivial (by exact hr_)
  · refine blk_nil ?_
    try refine Blk.nx ?_
    have hi_ := ((ei_zip (ea_cons (ev_cast (f := D.asList) asList_ok asList_x (ev_var (i := 0) (x := found_) rfl)) (ea_cons (ev_var (i := 1) (x := due_) rfl) ea_nil))) : EvI K (W0 E) [iM found_, iM due_, none, none] _ _)
    refine blk_seq (blk_for (S := Unit) (m_u_law_is_list_l2 (m_u_law_is_list_k3)) (m_u_law_is_list_k3) (fun _ => [iM found_, iM due_, none, none]) () L trivial (by exact hi_) (fun _ => (gx_tup (n := 2) (gxs_cons gx_name (gxs_cons gx_name gxs_nil)) rfl)) (.same (.same (.same (.same .nil)))) (fun _ => rfl) ?_ ?_)
    · intro F2 L2 hB2 x94 r2 s_ N_ hN2
      obtain ⟨⟩ := s_
      show Blk _ _ _ _ _ [iM found_, iM due_, iM x94.a, iM x94.b] (m_u_law_is_list_l2 (m_u_law_is_list_k3) (x94 :: r2) ())
      rw [m_u_law_is_list_l2]
      show Blk _ _ _ _ _ _ ((fun (one_ : D) (other_ : Int) => _) x94.a x94.b)
      generalize x94.a = one_
      generalize x94.b = other_
      show Blk _ _ _ _ _ [iM found_, iM due_, iM one_, iM other_] _
      have ht_ := ((et_or (et_not (et_B (ev_call (f := (fun (p : D × Unit) => m_u_law_integer p.1)) (ea_cons (ev_var (i := 2) (x := one_) rfl) ea_nil)))) (et_test (ev_op opx_neD mild_need (ev_var (i := 2) (x := one_) rfl) (ev_var (i := 3) (x := other_) rfl)))) : EvT K (W0 E) [iM found_, iM due_, iM one_, iM other_] _ _)
      refine blk_if2 L2 trivial (by exact ht_) ?_ ?_
      · have hr_ := ((ev_bl (b := false)) : EvX K (W0 E) [iM found_, iM due_, iM one_, iM other_] _ _)
        exact blk_ret L2 trivial (by exact hr_)
      · refine blk_nil ?_
        try refine Blk.nx ?_
        exact (hN2 ()).weak (.same (.same (.drop (.drop .nil))))
    · intro _
      show Blk _ _ _ _ _ [iM found_, iM due_, none, none] ((m_u_law_is_list_k3) ())
      unfold m_u_law_is_list_k3
      try refine Blk.nx ?_
      have hr_ := ((ev_bl (b := true)) : EvX K (W0 E) [iM found_, iM due_, none, none] _ _)
      exact blk_ret L trivial (by exact hr_)
noncomputable def m_u_law_length (size_ : Int) : Res (List Int) :=
  ((Res.ok (decide (size_ < (128 : Int))))).bind fun b => cond b   ((Res.ok ([size_] : List Int)))   (((Res.ok (decide (size_ < (256 : Int))))).bind fun b => cond b   ((Res.ok ([(129 : Int), size_] : List Int)))   ((Res.ok ([(130 : Int), (size_ / (256 : Int)), (size_ % (256 : Int))] : List Int))))
theorem ok_u_law_length {P : Program} {w : World} {K : PySem.W.Frag} {mg : Str → Option Value} {base : Heap} (T : Facts P w K mg) {fd : FuncData} (F : FnP K "_law_length" "_law_length" s_u_law_length (He.ga K "_law_length") fd) :
    FnOk P w K mg base (L2.CX P w) 1 (He.ga K "_law_length") fd ["size"] (spM K (fun (p : Int × Unit) => m_u_law_length p.1)) := by
  refine fn_ok F sc_u_law_length (fun y => rfl) (fun cdv A outer s H E hr => ?_)
  refine ⟨_, (pss_cons (ps_if (pt_cmpR op_lt (pv 0) pe_int (nomark _)) (pss_one (ps_ret (pe_lst (pa_cons (pv 0) pa_nil)))) pss_nil) (pss_cons (ps_if (pt_cmpR op_lt (pv 0) pe_int (nomark _)) (pss_one (ps_ret (pe_lst (pa_cons pe_int (pa_cons (pv 0) pa_nil))))) pss_nil) (pss_one (ps_ret (pe_lst (pa_cons pe_int (pa_cons (pe_op op_fdiv (pv 0) pe_int) (pa_cons (pe_op op_mod (pv 0) pe_int) pa_nil)))))))), ?_⟩
  rintro ⟨size_, ⟨⟩⟩ F0 H0 Q KP L
  show Blk K F0 H0 KP _ [iM size_] (m_u_law_length size_)
  unfold m_u_law_length
  have ht_ := ((et_test (ev_op (opx_B0 (g := fun i j => decide (i < j))) mild_ok (ev_var (i := 0) (x := size_) rfl) (ev_int (i := 128)))) : EvT K (W0 E) [iM size_] _ _)
  refine blk_seq (blk_if2 L trivial (by exact ht_) ?_ ?_)
  · have hr_ := ((ev_ofN (en_lst (f := (fun y => ([y.1] : List Int))) (ea_cons (ev_var (i := 0) (x := size_) rfl) ea_nil) (fun _ => rfl) (fun _ => by show 1 ≤ 100000; decide))) : EvX K (W0 E) [iM size_] _ _)
    exact blk_ret L trivial (by exact hr_)
  · refine blk_nil ?_
    try refine Blk.nx ?_
    have ht_ := ((et_test (ev_op (opx_B0 (g := fun i j => decide (i < j))) mild_ok (ev_var (i := 0) (x := size_) rfl) (ev_int (i := 256)))) : EvT K (W0 E) [iM size_] _ _)
    refine blk_seq (blk_if2 L trivial (by exact ht_) ?_ ?_)
    · have hr_ := ((ev_ofN (en_lst (f := (fun y => ([y.1, y.2.1] : List Int))) (ea_cons (ev_int (i := 129)) (ea_cons (ev_var (i := 0) (x := size_) rfl) ea_nil)) (fun _ => rfl) (fun _ => by show 2 ≤ 100000; decide))) : EvX K (W0 E) [iM size_] _ _)
      exact blk_ret L trivial (by exact hr_)
    · refine blk_nil ?_
      try refine Blk.nx ?_
      have hr_ := ((ev_ofN (en_lst (f := (fun y => ([y.1, y.2.1, y.2.2.1] : List Int))) (ea_cons (ev_int (i := 130)) (ea_cons (ev_opI (C := CDiv) (g := fun i j => i / j) (fun x y _ h => by cases h; exact ⟨by decide, by decide⟩) (ev_var (i := 0) (x := size_) rfl) (ev_int (i := 256))) (ea_cons (ev_opI (C := (fun _ j => 0 < j)) (g := fun i j => i % j) (fun x y _ h => by cases h; (show (0 : Int) < _; decide)) (ev_var (i := 0) (x := size_) rfl) (ev_int (i := 256))) ea_nil))) (fun _ => rfl) (fun _ => by show 3 ≤ 100000; decide))) : EvX K (W0 E) [iM size_] _ _)
      exact blk_ret L trivial (by exact hr_)
noncomputable def m_u_law_form_l1 (k1 : (List Int) × Int → Res (List Int)) : List Int → (List Int) × Int → Res (List Int)
  | [], s => k1 s
  | x98 :: r1, (content_, left_) =>   (fun (turn_ : Int) => (Res.need (([(left_ % (256 : Int))] : List Int).length + content_.length ≤ 16777216) (Res.ok (([(left_ % (256 : Int))] : List Int) ++ content_))).bind fun (content_ : (List Int)) =>   ((Res.ok (left_ / (256 : Int)))).bind fun (left_ : Int) =>   ((Res.ok (decide (left_ = (0 : Int))))).bind fun b => cond b   (k1 (content_, left_))   (m_u_law_form_l1 k1 r1 (content_, left_))) x98
noncomputable def m_u_law_form_k2  : (List Int) → Res (List Int) := fun content_ =>   ((m_u_law_length ((content_).length : Int)).bind fun (t100 : (List Int)) => Res.need (([(2 : Int)] : List Int).length + t100.length ≤ 16777216) (Res.ok (([(2 : Int)] : List Int) ++ t100))).bind fun (t101 : (List Int)) => Res.need (t101.length + content_.length ≤ 16777216) (Res.ok (t101 ++ content_))
noncomputable def m_u_law_form_k3 : (List Int) × Int → Res (List Int) := fun (content_, left_) =>   ((idx content_ (0 : Int)).bind fun (t99 : Int) => Res.ok (decide ((128 : Int) ≤ t99))).bind fun b => cond b   ((Res.need (([(0 : Int)] : List Int).length + content_.length ≤ 16777216) (Res.ok (([(0 : Int)] : List Int) ++ content_))).bind fun (content_ : (List Int)) =>   m_u_law_form_k2 content_)   (m_u_law_form_k2 content_)
noncomputable def m_u_law_form (number_ : Int) : Res (List Int) :=
  ((Res.ok ([] : List Int))).bind fun (content_ : (List Int)) =>   ((Res.ok number_)).bind fun (left_ : Int) =>   (Res.need (okRange (90 : Int)) (Res.ok (pyRange 0 (90 : Int)))).bind fun (xs102 : List Int) => m_u_law_form_l1 (m_u_law_form_k3) xs102 (content_, left_)
theorem ok_u_law_form {P : Program} {w : World} {K : PySem.W.Frag} {mg : Str → Option Value} {base : Heap} (T : Facts P w K mg) {fd : FuncData} (F : FnP K "_law_form" "_law_form" s_u_law_form (He.ga K "_law_form") fd) :
    FnOk P w K mg base (L2.CX P w) 2 (He.ga K "_law_form") fd ["number"] (spM K (fun (p : Int × Unit) => m_u_law_form p.1)) := by
  obtain ⟨fd_u_law_length, F_u_law_length⟩ := T.d_u_law_length
  have G_u_law_length := ok_u_law_length (P := P) (w := w) (base := base) T F_u_law_length
  have b_u_law_length : Binds K fd_u_law_length ["size"] [] := F_u_law_length.bindsN fun _ _ _ _ _ _ us hl => match us, hl with | [_], _ => rfl
  refine fn_ok F sc_u_law_form (fun y => rfl) (fun cdv A outer s H E hr => ?_)
  refine ⟨_, (pss_cons (ps_set (i := 1) sc_u_law_form.nd rfl (Or.inl rfl) (pe_lst pa_nil)) (pss_cons (ps_set (i := 2) sc_u_law_form.nd rfl (Or.inl rfl) (pv 0)) (pss_cons (ps_for (passes_of rfl) rfl (pi_range1 rfl T.n_range (pa_cons pe_int pa_nil)) (pg_name (i := 3) sc_u_law_form.nd rfl (Or.inl rfl)) (pss_cons (ps_set (i := 1) sc_u_law_form.nd rfl (Or.inl rfl) (pe_op op_cat (pe_lst (pa_cons (pe_op op_mod (pv 2) pe_int) pa_nil)) (pv 1))) (pss_cons (ps_set (i := 2) sc_u_law_form.nd rfl (Or.inl rfl) (pe_op op_fdiv (pv 2) pe_int)) (pss_one (ps_if (pt_cmpR op_eq (pv 2) pe_int (nomark _)) (pss_one ps_break) pss_nil))))) (pss_cons (ps_if (pt_cmpR op_ge (pe_ix (cr_ixL rfl) (pv 1) pe_int (fun _ _ => rfl)) pe_int (nomark _)) (pss_one (ps_set (i := 1) sc_u_law_form.nd rfl (Or.inl rfl) (pe_op op_cat (pe_lst (pa_cons pe_int pa_nil)) (pv 1)))) pss_nil) (pss_one (ps_ret (pe_op op_cat (pe_op op_cat (pe_lst (pa_cons pe_int pa_nil)) (pe_callS G_u_law_length (hr.mono (by decide)) rfl T.g_u_law_length F_u_law_length.kp b_u_law_length (fun σ => passAt (takes_of rfl rfl rfl rfl) σ) (pa_cons (pe_callB (cr_len rfl) (by rfl) T.n_len (by decide +kernel) (pa_cons (pv 1) pa_nil)) pa_nil))) (pv 1)))))))), ?_⟩
  rintro ⟨number_, ⟨⟩⟩ F0 H0 Q KP L
  show Blk K F0 H0 KP _ [iM number_, none, none, none] (m_u_law_form number_)
  unfold m_u_law_form
  have hs_ := ((ev_ofN (en_lst (f := (fun y => ([] : List Int))) ea_nil (fun _ => rfl) (fun _ => by show 0 ≤ 100000; decide))) : EvX K (W0 E) [iM number_, none, none, none] _ _)
  refine blk_seq (blk_set (i := 1) L trivial (by exact hs_) fun content_ => ?_)
  show Blk _ _ _ _ _ [iM number_, iM content_, none, none] _
  try refine Blk.nx ?_
  have hs_ := ((ev_var (i := 0) (x := number_) rfl) : EvX K (W0 E) [iM number_, iM content_, none, none] _ _)
  refine blk_seq (blk_set (i := 2) L trivial (by exact hs_) fun left_ => ?_)
  show Blk _ _ _ _ _ [iM number_, iM content_, iM left_, none] _
  try refine Blk.nx ?_
  have hi_ := ((ei_range1 (ev_int (i := 90))) : EvI K (W0 E) [iM number_, iM content_, iM left_, none] _ _)
  refine blk_seq (blk_for (S := (List Int) × Int) (m_u_law_form_l1 (m_u_law_form_k3)) (m_u_law_form_k3) (fun (content_, left_) => [iM number_, iM content_, iM left_, none]) (content_, left_) L trivial (by exact hi_) (fun _ => gx_name) (.same (.same (.same (.same .nil)))) (fun _ => rfl) ?_ ?_)
  · intro F1 L1 hB1 x98 r1 s_ N_ hN1
    obtain ⟨content_, left_⟩ := s_
    show Blk _ _ _ _ _ [iM number_, iM content_, iM left_, iM x98] (m_u_law_form_l1 (m_u_law_form_k3) (x98 :: r1) (content_, left_))
    rw [m_u_law_form_l1]
    show Blk _ _ _ _ _ _ ((fun (turn_ : Int) => _) x98)
    generalize x98 = turn_
    show Blk _ _ _ _ _ [iM number_, iM content_, iM left_, iM turn_] _
    have hs_ := ((ev_ofN (en_cat (ev_ofN (en_lst (f := (fun y => ([y.1] : List Int))) (ea_cons (ev_opI (C := (fun _ j => 0 < j)) (g := fun i j => i % j) (fun x y _ h => by cases h; (show (0 : Int) < _; decide)) (ev_var (i := 2) (x := left_) rfl) (ev_int (i := 256))) ea_nil) (fun _ => rfl) (fun _ => by show 1 ≤ 100000; decide))) (ev_var (i := 1) (x := content_) rfl))) : EvX K (W0 E) [iM number_, iM content_, iM left_, iM turn_] _ _)
    refine blk_seq (blk_set (i := 1) L1 trivial (by exact hs_) fun content_ => ?_)
    show Blk _ _ _ _ _ [iM number_, iM content_, iM left_, iM turn_] _
    try refine Blk.nx ?_
    have hs_ := ((ev_opI (C := CDiv) (g := fun i j => i / j) (fun x y _ h => by cases h; exact ⟨by decide, by decide⟩) (ev_var (i := 2) (x := left_) rfl) (ev_int (i := 256))) : EvX K (W0 E) [iM number_, iM content_, iM left_, iM turn_] _ _)
    refine blk_seq (blk_set (i := 2) L1 trivial (by exact hs_) fun left_ => ?_)
    show Blk _ _ _ _ _ [iM number_, iM content_, iM left_, iM turn_] _
    try refine Blk.nx ?_
    have ht_ := ((et_test (ev_op opx_eqI mild_ok (ev_var (i := 2) (x := left_) rfl) (ev_int (i := 0)))) : EvT K (W0 E) [iM number_, iM content_, iM left_, iM turn_] _ _)
    refine blk_if2 L1 trivial (by exact ht_) ?_ ?_
    · exact (hB1 (content_, left_)).weak (.same (.same (.same (.drop .nil))))
    · refine blk_nil ?_
      try refine Blk.nx ?_
      exact (hN1 (content_, left_)).weak (.same (.same (.same (.drop .nil))))
  · rintro ⟨content_, left_⟩
    show Blk _ _ _ _ _ [iM number_, iM content_, iM left_, none] ((m_u_law_form_k3) (content_, left_))
    unfold m_u_law_form_k3
    try refine Blk.nx ?_
    have ht_ := ((et_test (ev_op (opx_B0 (g := fun i j => decide (j ≤ i))) mild_ok (ev_op opx_ixL (fun x y => idx_mild x y) (ev_var (i := 1) (x := content_) rfl) (ev_int (i := 0))) (ev_int (i := 128)))) : EvT K (W0 E) [iM number_, iM content_, iM left_, none] _ _)
    refine blk_seq (blk_ifj (S := (List Int)) (fun content_ => [iM number_, iM content_, iM left_, none]) m_u_law_form_k2 L trivial (by exact ht_) ?_ ?_ ?_)
    · intro content_
      show Blk _ _ _ _ _ [iM number_, iM content_, iM left_, none] (m_u_law_form_k2 content_)
      unfold m_u_law_form_k2
      try refine Blk.nx ?_
      have hr_ := ((ev_ofN (en_cat (ev_ofN (en_cat (ev_ofN (en_lst (f := (fun y => ([y.1] : List Int))) (ea_cons (ev_int (i := 2)) ea_nil) (fun _ => rfl) (fun _ => by show 1 ≤ 100000; decide))) (ev_call (f := (fun (p : Int × Unit) => m_u_law_length p.1)) (ea_cons (ev_cb cx_len (fun _ _ h => nomatch h) (ea_cons (ev_var (i := 1) (x := content_) rfl) ea_nil)) ea_nil)))) (ev_var (i := 1) (x := content_) rfl))) : EvX K (W0 E) [iM number_, iM content_, iM left_, none] _ _)
      exact blk_ret L trivial (by exact hr_)
    · intro hk2
      have hs_ := ((ev_ofN (en_cat (ev_ofN (en_lst (f := (fun y => ([y.1] : List Int))) (ea_cons (ev_int (i := 0)) ea_nil) (fun _ => rfl) (fun _ => by show 1 ≤ 100000; decide))) (ev_var (i := 1) (x := content_) rfl))) : EvX K (W0 E) [iM number_, iM content_, iM left_, none] _ _)
      refine blk_set (i := 1) L trivial (by exact hs_) fun content_ => ?_
      show Blk _ _ _ _ _ [iM number_, iM content_, iM left_, none] _
      try refine Blk.nx ?_
      exact (hk2 content_).weak (.same (.same (.same (.same .nil))))
    · intro hk2
      refine blk_nil ?_
      try refine Blk.nx ?_
      exact (hk2 content_).weak (.same (.same (.same (.same .nil))))
noncomputable def m_u_law_call (which_ : Int) (data_ : D) (at_ : Int) : Res D :=
  ((Res.ok (decide (which_ = (0 : Int))))).bind fun b => cond b   ((((((Res.ok data_)).bind D.asInt).bind fun a103 => Res.ok (a103, ())).bind fun p105 => m_write_length p105.1).bind fun (x : (List Int)) => Res.ok (toD x))   (((Res.ok (decide (which_ = (1 : Int))))).bind fun b => cond b   ((((((Res.ok data_)).bind D.asInts).bind fun a106 => Res.ok (a106, (at_, ()))).bind fun p108 => m_read_length p108.1 p108.2.1).bind fun (x : (T2 Int Int)) => Res.ok (toD x))   (((Res.ok (decide (which_ = (2 : Int))))).bind fun b => cond b   ((((((Res.ok data_)).bind D.asInt).bind fun a109 => Res.ok (a109, ())).bind fun p111 => m_write_number p111.1).bind fun (x : (List Int)) => Res.ok (toD x))   (m_read_tree data_)))
theorem ok_u_law_call {P : Program} {w : World} {K : PySem.W.Frag} {mg : Str → Option Value} {base : Heap} (T : Facts P w K mg) {fd : FuncData} (F : FnP K "_law_call" "_law_call" s_u_law_call (He.ga K "_law_call") fd) :
    FnOk P w K mg base (L2.CX P w) 16 (He.ga K "_law_call") fd ["which", "data", "at"] (spM K (fun (p : Int × D × Int × Unit) => m_u_law_call p.1 p.2.1 p.2.2.1)) := by
  obtain ⟨fd_read_length, F_read_length⟩ := T.d_read_length
  have G_read_length := ok_read_length (P := P) (w := w) (base := base) T F_read_length
  have b_read_length : Binds K fd_read_length ["data", "at"] [] := F_read_length.bindsN fun _ _ _ _ _ _ us hl => match us, hl with | [_, _], _ => rfl
  obtain ⟨fd_read_tree, F_read_tree⟩ := T.d_read_tree
  have G_read_tree := ok_read_tree (P := P) (w := w) (base := base) T F_read_tree
  have b_read_tree : Binds K fd_read_tree ["data"] [] := F_read_tree.bindsN fun _ _ _ _ _ _ us hl => match us, hl with | [_], _ => rfl
  obtain ⟨fd_write_length, F_write_length⟩ := T.d_write_length
  have G_write_length := ok_write_length (P := P) (w := w) (base := base) T F_write_length
  have b_write_length : Binds K fd_write_length ["size"] [] := F_write_length.bindsN fun _ _ _ _ _ _ us hl => match us, hl with | [_], _ => rfl
  obtain ⟨fd_write_number, F_write_number⟩ := T.d_write_number
  have G_write_number := ok_write_number (P := P) (w := w) (base := base) T F_write_number
  have b_write_number : Binds K fd_write_number ["number"] [] := F_write_number.bindsN fun _ _ _ _ _ _ us hl => match us, hl with | [_], _ => rfl
  refine fn_ok F sc_u_law_call (fun y => rfl) (fun cdv A outer s H E hr => ?_)
  refine ⟨_, (pss_cons (ps_if (pt_cmpR op_eq (pv 0) pe_int (nomark _)) (pss_one (ps_ret (pe_callS G_write_length (hr.mono (by decide)) rfl T.g_write_length F_write_length.kp b_write_length (fun σ => passAt (takes_of rfl rfl rfl rfl) σ) (pa_cons (pv 1) pa_nil)))) pss_nil) (pss_cons (ps_if (pt_cmpR op_eq (pv 0) pe_int (nomark _)) (pss_one (ps_ret (pe_callS G_read_length (hr.mono (by decide)) rfl T.g_read_length F_read_length.kp b_read_length (fun σ => passAt (takes_of rfl rfl rfl rfl) σ) (pa_cons (pv 1) (pa_cons (pv 2) pa_nil))))) pss_nil) (pss_cons (ps_if (pt_cmpR op_eq (pv 0) pe_int (nomark _)) (pss_one (ps_ret (pe_callS G_write_number (hr.mono (by decide)) rfl T.g_write_number F_write_number.kp b_write_number (fun σ => passAt (takes_of rfl rfl rfl rfl) σ) (pa_cons (pv 1) pa_nil)))) pss_nil) (pss_one (ps_ret (pe_callS G_read_tree (hr.mono (by decide)) rfl T.g_read_tree F_read_tree.kp b_read_tree (fun σ => passAt (takes_of rfl rfl rfl rfl) σ) (pa_cons (pv 1) pa_nil))))))), ?_⟩
  rintro ⟨which_, data_, at_, ⟨⟩⟩ F0 H0 Q KP L
  show Blk K F0 H0 KP _ [iM which_, iM data_, iM at_] (m_u_law_call which_ data_ at_)
  unfold m_u_law_call
  have ht_ := ((et_test (ev_op opx_eqI mild_ok (ev_var (i := 0) (x := which_) rfl) (ev_int (i := 0)))) : EvT K (W0 E) [iM which_, iM data_, iM at_] _ _)
  refine blk_seq (blk_if2 L trivial (by exact ht_) ?_ ?_)
  · have hr_ := ((ev_as (ev_call (f := (fun (p : Int × Unit) => m_write_length p.1)) (ea_cons (ev_cast (f := D.asInt) asInt_ok asInt_x (ev_var (i := 1) (x := data_) rfl)) ea_nil)) toD (fun _ => rfl) rfl) : EvX K (W0 E) [iM which_, iM data_, iM at_] _ _)
    exact blk_ret L trivial (by exact hr_)
  · refine blk_nil ?_
    try refine Blk.nx ?_
    have ht_ := ((et_test (ev_op opx_eqI mild_ok (ev_var (i := 0) (x := which_) rfl) (ev_int (i := 1)))) : EvT K (W0 E) [iM which_, iM data_, iM at_] _ _)
    refine blk_seq (blk_if2 L trivial (by exact ht_) ?_ ?_)
    · have hr_ := ((ev_as (ev_call (f := (fun (p : (List Int) × Int × Unit) => m_read_length p.1 p.2.1)) (ea_cons (ev_cast (f := D.asInts) asInts_ok asInts_x (ev_var (i := 1) (x := data_) rfl)) (ea_cons (ev_var (i := 2) (x := at_) rfl) ea_nil))) toD (fun _ => rfl) rfl) : EvX K (W0 E) [iM which_, iM data_, iM at_] _ _)
      exact blk_ret L trivial (by exact hr_)
    · refine blk_nil ?_
      try refine Blk.nx ?_
      have ht_ := ((et_test (ev_op opx_eqI mild_ok (ev_var (i := 0) (x := which_) rfl) (ev_int (i := 2)))) : EvT K (W0 E) [iM which_, iM data_, iM at_] _ _)
      refine blk_seq (blk_if2 L trivial (by exact ht_) ?_ ?_)
      · have hr_ := ((ev_as (ev_call (f := (fun (p : Int × Unit) => m_write_number p.1)) (ea_cons (ev_cast (f := D.asInt) asInt_ok asInt_x (ev_var (i := 1) (x := data_) rfl)) ea_nil)) toD (fun _ => rfl) rfl) : EvX K (W0 E) [iM which_, iM data_, iM at_] _ _)
        exact blk_ret L trivial (by exact hr_)
      · refine blk_nil ?_
        try refine Blk.nx ?_
        have hr_ := ((ev_call (f := (fun (p : D × Unit) => m_read_tree p.1)) (ea_cons (ev_var (i := 1) (x := data_) rfl) ea_nil)) : EvX K (W0 E) [iM which_, iM data_, iM at_] _ _)
        exact blk_ret L trivial (by exact hr_)
noncomputable def m_u_law_told (which_ : Int) (data_ : D) (at_ : Int) : Res D :=
  tryM (fun c => decide (c ∈ errs)) subE   ((m_u_law_call which_ data_ at_).bind fun x => Res.ok (.back x))   (fun (_ : Unit) => Res.stuck) [("Malformed", (Res.ok (toD (T2.mk ("refused" : Str) ("form" : Str))))), ("OutOfRange", (Res.ok (toD (T2.mk ("refused" : Str) ("range" : Str))))), ("CurveError", (Res.ok (toD (T2.mk ("refused" : Str) ("" : Str)))))]
theorem ok_u_law_told {P : Program} {w : World} {K : PySem.W.Frag} {mg : Str → Option Value} {base : Heap} (T : Facts P w K mg) {fd : FuncData} (F : FnP K "_law_told" "_law_told" s_u_law_told (He.ga K "_law_told") fd) :
    FnOk P w K mg base (L2.CX P w) 17 (He.ga K "_law_told") fd ["which", "data", "at"] (spM K (fun (p : Int × D × Int × Unit) => m_u_law_told p.1 p.2.1 p.2.2.1)) := by
  obtain ⟨fd_u_law_call, F_u_law_call⟩ := T.d_u_law_call
  have G_u_law_call := ok_u_law_call (P := P) (w := w) (base := base) T F_u_law_call
  have b_u_law_call : Binds K fd_u_law_call ["which", "data", "at"] [] := F_u_law_call.bindsN fun _ _ _ _ _ _ us hl => match us, hl with | [_, _, _], _ => rfl
  refine fn_ok F sc_u_law_told (fun y => rfl) (fun cdv A outer s H E hr => ?_)
  refine ⟨_, (pss_one (ps_tryM rfl rfl (takes_of rfl rfl rfl rfl) (fun qW_ qpn_ qxe_ qtk_ qpo_ => (pss_one (ps_ret (pe_callS G_u_law_call (hr.mono (by decide)) rfl T.g_u_law_call F_u_law_call.kp b_u_law_call (fun σ => passAt qtk_ σ) (pa_cons (pv 0) (pa_cons (pv 1) (pa_cons (pv 2) pa_nil))))))) (.cons ⟨rfl, by decide, .inl T.g_Malformed⟩ (fun qa_ qoe_ qcls_ qd_ qpn_ qhz_ qhf_ => (pss_one (ps_ret (pe_tup (pa_cons pe_str (pa_cons pe_str pa_nil)))))) (.cons ⟨rfl, by decide, .inl T.g_OutOfRange⟩ (fun qa_ qoe_ qcls_ qd_ qpn_ qhz_ qhf_ => (pss_one (ps_ret (pe_tup (pa_cons pe_str (pa_cons pe_str pa_nil)))))) (.cons ⟨rfl, by decide, .inl T.g_CurveError⟩ (fun qa_ qoe_ qcls_ qd_ qpn_ qhz_ qhf_ => (pss_one (ps_ret (pe_tup (pa_cons pe_str (pa_cons pe_str pa_nil)))))) .nil))))), ?_⟩
  rintro ⟨which_, data_, at_, ⟨⟩⟩ F0 H0 Q KP L
  show Blk K F0 H0 KP _ [iM which_, iM data_, iM at_] (m_u_law_told which_ data_ at_)
  unfold m_u_law_told
  refine blk_tryM (S := Unit) (envS := fun _ => [iM which_, iM data_, iM at_]) (rest := (fun (_ : Unit) => Res.stuck)) L trivial T.cls ?_ (.cons (by decide) (fun qa_ qcls_ => ?_) (.cons (by decide) (fun qa_ qcls_ => ?_) (.cons (by decide) (fun qa_ qcls_ => ?_) .nil))) ?_
  · intro qW_ qKP_ Lt qhg_
    have hr_ := ((ev_call (f := (fun (p : Int × D × Int × Unit) => m_u_law_call p.1 p.2.1 p.2.2.1)) (ea_cons (ev_var (i := 0) (x := which_) rfl) (ea_cons (ev_var (i := 1) (x := data_) rfl) (ea_cons (ev_var (i := 2) (x := at_) rfl) ea_nil)))) : EvX K qW_ [iM which_, iM data_, iM at_] _ _)
    exact blk_retAs Lt (.same (.same (.same .nil))) (by exact hr_) (fun _ => rfl)
  · show Blk _ _ _ _ _ [iM which_, iM data_, iM at_] _
    have hr_ := ((ev_as (ev_tup (f := (fun (y : Str × Str × Unit) => T2.mk y.1 y.2.1)) (ea_cons (ev_str (x := "refused")) (ea_cons (ev_str (x := "form")) ea_nil)) (fun _ => rfl) (fun _ => by show 2 ≤ 100000; decide)) toD (fun _ => rfl) rfl) : EvX K (W0 E) [iM which_, iM data_, iM at_] _ _)
    exact blk_ret L trivial (by exact hr_)
  · show Blk _ _ _ _ _ [iM which_, iM data_, iM at_] _
    have hr_ := ((ev_as (ev_tup (f := (fun (y : Str × Str × Unit) => T2.mk y.1 y.2.1)) (ea_cons (ev_str (x := "refused")) (ea_cons (ev_str (x := "range")) ea_nil)) (fun _ => rfl) (fun _ => by show 2 ≤ 100000; decide)) toD (fun _ => rfl) rfl) : EvX K (W0 E) [iM which_, iM data_, iM at_] _ _)
    exact blk_ret L trivial (by exact hr_)
  · show Blk _ _ _ _ _ [iM which_, iM data_, iM at_] _
    have hr_ := ((ev_as (ev_tup (f := (fun (y : Str × Str × Unit) => T2.mk y.1 y.2.1)) (ea_cons (ev_str (x := "refused")) (ea_cons (ev_str (x := "")) ea_nil)) (fun _ => rfl) (fun _ => by show 2 ≤ 100000; decide)) toD (fun _ => rfl) rfl) : EvX K (W0 E) [iM which_, iM data_, iM at_] _ _)
    exact blk_ret L trivial (by exact hr_)
  · intro _ _ _ _ _ h_
    exact (L.no h_).elim
noncomputable def m_u_law_size (cell_ : Int) : Res Int :=
  ((Res.ok (decide ((cell_ % (3 : Int)) = (0 : Int))))).bind fun b => cond b   (idx ([(0 : Int), (127 : Int), (128 : Int), (255 : Int), (256 : Int), (65535 : Int), (126 : Int), (129 : Int), (254 : Int), (257 : Int)] : List Int) ((cell_ / (3 : Int)) % (10 : Int)))   ((Res.ok ((cell_ / (3 : Int)) % (65536 : Int))))
theorem ok_u_law_size {P : Program} {w : World} {K : PySem.W.Frag} {mg : Str → Option Value} {base : Heap} (T : Facts P w K mg) {fd : FuncData} (F : FnP K "_law_size" "_law_size" s_u_law_size (He.ga K "_law_size") fd) :
    FnOk P w K mg base (L2.CX P w) 1 (He.ga K "_law_size") fd ["cell"] (spM K (fun (p : Int × Unit) => m_u_law_size p.1)) := by
  refine fn_ok F sc_u_law_size (fun y => rfl) (fun cdv A outer s H E hr => ?_)
  refine ⟨_, (pss_cons (ps_if (pt_cmpR op_eq (pe_op op_mod (pv 0) pe_int) pe_int (nomark _)) (pss_one (ps_ret (pe_ix (cr_ixL rfl) (pe_lst (pa_cons pe_int (pa_cons pe_int (pa_cons pe_int (pa_cons pe_int (pa_cons pe_int (pa_cons pe_int (pa_cons pe_int (pa_cons pe_int (pa_cons pe_int (pa_cons pe_int pa_nil))))))))))) (pe_op op_mod (pe_op op_fdiv (pv 0) pe_int) pe_int) (fun _ _ => rfl)))) pss_nil) (pss_one (ps_ret (pe_op op_mod (pe_op op_fdiv (pv 0) pe_int) pe_int)))), ?_⟩
  rintro ⟨cell_, ⟨⟩⟩ F0 H0 Q KP L
  show Blk K F0 H0 KP _ [iM cell_] (m_u_law_size cell_)
  unfold m_u_law_size
  have ht_ := ((et_test (ev_op opx_eqI mild_ok (ev_opI (C := (fun _ j => 0 < j)) (g := fun i j => i % j) (fun x y _ h => by cases h; (show (0 : Int) < _; decide)) (ev_var (i := 0) (x := cell_) rfl) (ev_int (i := 3))) (ev_int (i := 0)))) : EvT K (W0 E) [iM cell_] _ _)
  refine blk_seq (blk_if2 L trivial (by exact ht_) ?_ ?_)
  · have hr_ := ((ev_op opx_ixL (fun x y => idx_mild x y) (ev_ofN (en_lst (f := (fun y => ([y.1, y.2.1, y.2.2.1, y.2.2.2.1, y.2.2.2.2.1, y.2.2.2.2.2.1, y.2.2.2.2.2.2.1, y.2.2.2.2.2.2.2.1, y.2.2.2.2.2.2.2.2.1, y.2.2.2.2.2.2.2.2.2.1] : List Int))) (ea_cons (ev_int (i := 0)) (ea_cons (ev_int (i := 127)) (ea_cons (ev_int (i := 128)) (ea_cons (ev_int (i := 255)) (ea_cons (ev_int (i := 256)) (ea_cons (ev_int (i := 65535)) (ea_cons (ev_int (i := 126)) (ea_cons (ev_int (i := 129)) (ea_cons (ev_int (i := 254)) (ea_cons (ev_int (i := 257)) ea_nil)))))))))) (fun _ => rfl) (fun _ => by show 10 ≤ 100000; decide))) (ev_opI (C := (fun _ j => 0 < j)) (g := fun i j => i % j) (fun x y _ h => by cases h; (show (0 : Int) < _; decide)) (ev_opI (C := CDiv) (g := fun i j => i / j) (fun x y _ h => by cases h; exact ⟨by decide, by decide⟩) (ev_var (i := 0) (x := cell_) rfl) (ev_int (i := 3))) (ev_int (i := 10)))) : EvX K (W0 E) [iM cell_] _ _)
    exact blk_ret L trivial (by exact hr_)
  · refine blk_nil ?_
    try refine Blk.nx ?_
    have hr_ := ((ev_opI (C := (fun _ j => 0 < j)) (g := fun i j => i % j) (fun x y _ h => by cases h; (show (0 : Int) < _; decide)) (ev_opI (C := CDiv) (g := fun i j => i / j) (fun x y _ h => by cases h; exact ⟨by decide, by decide⟩) (ev_var (i := 0) (x := cell_) rfl) (ev_int (i := 3))) (ev_int (i := 65536))) : EvX K (W0 E) [iM cell_] _ _)
    exact blk_ret L trivial (by exact hr_)
noncomputable def m_u_law_due_length_k3 (end_ : Int) (part_ : (List Int)) (g1 : Unit → Res D) : Int → Res D := fun size_ =>   ((m_u_law_length size_).bind fun (t115 : (List Int)) => Res.need ((toD part_).okq = true ∧ (toD t115).okq = true) (Res.ok (pyEq (toD part_) (toD t115)))).bind fun b => cond b   ((Res.ok (toD (T2.mk size_ end_))))   (g1 ())
noncomputable def m_u_law_due_length_l1 (data_ : (List Int)) (at_ : Int) (k1 : Unit → Res D) : List Int → Unit → Res D
  | [], s => k1 s
  | x112 :: r1, _ =>   (fun (end_ : Int) => ((Res.ok (some at_)).bind fun (lo113 : Option Int) => (Res.ok (some end_)).bind fun (hi114 : Option Int) => Res.ok (cutL data_ lo113 hi114)).bind fun (part_ : (List Int)) =>   ((Res.ok (!decide (((part_).length : Int) = (end_ - at_))))).bind fun b => cond b   (m_u_law_due_length_l1 data_ at_ k1 r1 ())   ((idx part_ (((part_).length : Int) - (1 : Int))).bind fun (size_ : Int) =>   ((Res.ok (decide (((part_).length : Int) = (3 : Int))))).bind fun b => cond b   ((((idx part_ (1 : Int)).bind fun (t116 : Int) => Res.ok ((256 : Int) * t116)).bind fun (t117 : Int) => (idx part_ (2 : Int)).bind fun (t118 : Int) => Res.ok (t117 + t118)).bind fun (size_ : Int) =>   (m_u_law_due_length_k3 end_ part_ (m_u_law_due_length_l1 data_ at_ k1 r1)) size_)   ((m_u_law_due_length_k3 end_ part_ (m_u_law_due_length_l1 data_ at_ k1 r1)) size_))) x112
noncomputable def m_u_law_due_length_k4 : Unit → Res D := fun _ =>   (Res.ok (toD (T2.mk ("refused" : Str) ("form" : Str))))
noncomputable def m_u_law_due_length (data_ : (List Int)) (at_ : Int) : Res D :=
  ((Res.ok ([(at_ + (1 : Int)), (at_ + (2 : Int)), (at_ + (3 : Int))] : List Int))).bind fun (xs119 : List Int) => m_u_law_due_length_l1 data_ at_ (m_u_law_due_length_k4) xs119 ()
theorem ok_u_law_due_length {P : Program} {w : World} {K : PySem.W.Frag} {mg : Str → Option Value} {base : Heap} (T : Facts P w K mg) {fd : FuncData} (F : FnP K "_law_due_length" "_law_due_length" s_u_law_due_length (He.ga K "_law_due_length") fd) :
    FnOk P w K mg base (L2.CX P w) 2 (He.ga K "_law_due_length") fd ["data", "at"] (spM K (fun (p : (List Int) × Int × Unit) => m_u_law_due_length p.1 p.2.1)) := by
  obtain ⟨fd_u_law_length, F_u_law_length⟩ := T.d_u_law_length
  have G_u_law_length := ok_u_law_length (P := P) (w := w) (base := base) T F_u_law_length
  have b_u_law_length : Binds K fd_u_law_length ["size"] [] := F_u_law_length.bindsN fun _ _ _ _ _ _ us hl => match us, hl with | [_], _ => rfl
  refine fn_ok F sc_u_law_due_length (fun y => rfl) (fun cdv A outer s H E hr => ?_)
  refine ⟨_, (pss_cons (ps_for (passes_of rfl) rfl (pi_list (pe_lst (pa_cons (pe_op op_add (pv 1) pe_int) (pa_cons (pe_op op_add (pv 1) pe_int) (pa_cons (pe_op op_add (pv 1) pe_int) pa_nil))))) (pg_name (i := 2) sc_u_law_due_length.nd rfl (Or.inl rfl)) (pss_cons (ps_set (i := 3) sc_u_law_due_length.nd rfl (Or.inl rfl) (pe_slice (cr_slL rfl) (pv 0) (po_some (pv 1)) (po_some (pv 2)))) (pss_cons (ps_if (pt_cmpR op_ne (pe_callB (cr_len rfl) (by rfl) T.n_len (by decide +kernel) (pa_cons (pv 3) pa_nil)) (pe_op op_sub (pv 2) (pv 1)) (nomark _)) (pss_one ps_continue) pss_nil) (pss_cons (ps_set (i := 4) sc_u_law_due_length.nd rfl (Or.inl rfl) (pe_ix (cr_ixL rfl) (pv 3) (pe_op op_sub (pe_callB (cr_len rfl) (by rfl) T.n_len (by decide +kernel) (pa_cons (pv 3) pa_nil)) pe_int) (fun _ _ => rfl))) (pss_cons (ps_if (pt_cmpR op_eq (pe_callB (cr_len rfl) (by rfl) T.n_len (by decide +kernel) (pa_cons (pv 3) pa_nil)) pe_int (nomark _)) (pss_one (ps_set (i := 4) sc_u_law_due_length.nd rfl (Or.inl rfl) (pe_op op_add (pe_op op_mul pe_int (pe_ix (cr_ixL rfl) (pv 3) pe_int (fun _ _ => rfl))) (pe_ix (cr_ixL rfl) (pv 3) pe_int (fun _ _ => rfl))))) pss_nil) (pss_one (ps_if (pt_cmpR (op_eqD (Room.units hr)) (pv 3) (pe_callS G_u_law_length (hr.mono (by decide)) rfl T.g_u_law_length F_u_law_length.kp b_u_law_length (fun σ => passAt (takes_of rfl rfl rfl rfl) σ) (pa_cons (pv 4) pa_nil)) (nomark _)) (pss_one (ps_ret (pe_tup (pa_cons (pv 4) (pa_cons (pv 2) pa_nil))))) pss_nil))))))) (pss_one (ps_ret (pe_tup (pa_cons pe_str (pa_cons pe_str pa_nil)))))), ?_⟩
  rintro ⟨data_, at_, ⟨⟩⟩ F0 H0 Q KP L
  show Blk K F0 H0 KP _ [iM data_, iM at_, none, none, none] (m_u_law_due_length data_ at_)
  unfold m_u_law_due_length
  have hi_ := ((ei_list (ev_ofN (en_lst (f := (fun y => ([y.1, y.2.1, y.2.2.1] : List Int))) (ea_cons (ev_op (opx_I0 (g := fun i j => i + j)) mild_ok (ev_var (i := 1) (x := at_) rfl) (ev_int (i := 1))) (ea_cons (ev_op (opx_I0 (g := fun i j => i + j)) mild_ok (ev_var (i := 1) (x := at_) rfl) (ev_int (i := 2))) (ea_cons (ev_op (opx_I0 (g := fun i j => i + j)) mild_ok (ev_var (i := 1) (x := at_) rfl) (ev_int (i := 3))) ea_nil))) (fun _ => rfl) (fun _ => by show 3 ≤ 100000; decide)))) : EvI K (W0 E) [iM data_, iM at_, none, none, none] _ _)
  refine blk_seq (blk_for (S := Unit) (m_u_law_due_length_l1 data_ at_ (m_u_law_due_length_k4)) (m_u_law_due_length_k4) (fun _ => [iM data_, iM at_, none, none, none]) () L trivial (by exact hi_) (fun _ => gx_name) (.same (.same (.same (.same (.same .nil))))) (fun _ => rfl) ?_ ?_)
  · intro F1 L1 hB1 x112 r1 s_ N_ hN1
    obtain ⟨⟩ := s_
    show Blk _ _ _ _ _ [iM data_, iM at_, iM x112, none, none] (m_u_law_due_length_l1 data_ at_ (m_u_law_due_length_k4) (x112 :: r1) ())
    rw [m_u_law_due_length_l1]
    show Blk _ _ _ _ _ _ ((fun (end_ : Int) => _) x112)
    generalize x112 = end_
    show Blk _ _ _ _ _ [iM data_, iM at_, iM end_, none, none] _
    have hs_ := ((ev_ofN (en_sliceV (ev_var (i := 0) (x := data_) rfl) (ept_some (ev_var (i := 1) (x := at_) rfl)) (ept_some (ev_var (i := 2) (x := end_) rfl)))) : EvX K (W0 E) [iM data_, iM at_, iM end_, none, none] _ _)
    refine blk_seq (blk_set (i := 3) L1 trivial (by exact hs_) fun part_ => ?_)
    show Blk _ _ _ _ _ [iM data_, iM at_, iM end_, iM part_, none] _
    try refine Blk.nx ?_
    have ht_ := ((et_test (ev_op opx_neI mild_ok (ev_cb cx_len (fun _ _ h => nomatch h) (ea_cons (ev_var (i := 3) (x := part_) rfl) ea_nil)) (ev_op (opx_I0 (g := fun i j => i - j)) mild_ok (ev_var (i := 2) (x := end_) rfl) (ev_var (i := 1) (x := at_) rfl)))) : EvT K (W0 E) [iM data_, iM at_, iM end_, iM part_, none] _ _)
    refine blk_seq (blk_if2 L1 trivial (by exact ht_) ?_ ?_)
    · exact (hN1 ()).weak (.same (.same (.drop (.drop (.same .nil)))))
    · refine blk_nil ?_
      try refine Blk.nx ?_
      have hs_ := ((ev_op opx_ixL (fun x y => idx_mild x y) (ev_var (i := 3) (x := part_) rfl) (ev_op (opx_I0 (g := fun i j => i - j)) mild_ok (ev_cb cx_len (fun _ _ h => nomatch h) (ea_cons (ev_var (i := 3) (x := part_) rfl) ea_nil)) (ev_int (i := 1)))) : EvX K (W0 E) [iM data_, iM at_, iM end_, iM part_, none] _ _)
      refine blk_seq (blk_set (i := 4) L1 trivial (by exact hs_) fun size_ => ?_)
      show Blk _ _ _ _ _ [iM data_, iM at_, iM end_, iM part_, iM size_] _
      try refine Blk.nx ?_
      have ht_ := ((et_test (ev_op opx_eqI mild_ok (ev_cb cx_len (fun _ _ h => nomatch h) (ea_cons (ev_var (i := 3) (x := part_) rfl) ea_nil)) (ev_int (i := 3)))) : EvT K (W0 E) [iM data_, iM at_, iM end_, iM part_, iM size_] _ _)
      refine blk_seq (blk_ifj (S := Int) (fun size_ => [iM data_, iM at_, iM end_, iM part_, iM size_]) (m_u_law_due_length_k3 end_ part_ (m_u_law_due_length_l1 data_ at_ (m_u_law_due_length_k4) r1)) L1 trivial (by exact ht_) ?_ ?_ ?_)
      · intro size_
        show Blk _ _ _ _ _ [iM data_, iM at_, iM end_, iM part_, iM size_] ((m_u_law_due_length_k3 end_ part_ (m_u_law_due_length_l1 data_ at_ (m_u_law_due_length_k4) r1)) size_)
        unfold m_u_law_due_length_k3
        try refine Blk.nx ?_
        have ht_ := ((et_test (ev_op opx_eqD mild_need (ev_var (i := 3) (x := part_) rfl) (ev_call (f := (fun (p : Int × Unit) => m_u_law_length p.1)) (ea_cons (ev_var (i := 4) (x := size_) rfl) ea_nil)))) : EvT K (W0 E) [iM data_, iM at_, iM end_, iM part_, iM size_] _ _)
        refine blk_if2 L1 trivial (by exact ht_) ?_ ?_
        · have hr_ := ((ev_as (ev_tup (f := (fun (y : Int × Int × Unit) => T2.mk y.1 y.2.1)) (ea_cons (ev_var (i := 4) (x := size_) rfl) (ea_cons (ev_var (i := 2) (x := end_) rfl) ea_nil)) (fun _ => rfl) (fun _ => by show 2 ≤ 100000; decide)) toD (fun _ => rfl) rfl) : EvX K (W0 E) [iM data_, iM at_, iM end_, iM part_, iM size_] _ _)
          exact blk_ret L1 trivial (by exact hr_)
        · refine blk_nil ?_
          try refine Blk.nx ?_
          exact (hN1 ()).weak (.same (.same (.drop (.drop (.drop .nil)))))
      · intro hk3
        have hs_ := ((ev_op (opx_I0 (g := fun i j => i + j)) mild_ok (ev_opI (C := CMul) (g := fun i j => i * j) (fun x y h _ => by cases h; exact .inl (by decide)) (ev_int (i := 256)) (ev_op opx_ixL (fun x y => idx_mild x y) (ev_var (i := 3) (x := part_) rfl) (ev_int (i := 1)))) (ev_op opx_ixL (fun x y => idx_mild x y) (ev_var (i := 3) (x := part_) rfl) (ev_int (i := 2)))) : EvX K (W0 E) [iM data_, iM at_, iM end_, iM part_, iM size_] _ _)
        refine blk_set (i := 4) L1 trivial (by exact hs_) fun size_ => ?_
        show Blk _ _ _ _ _ [iM data_, iM at_, iM end_, iM part_, iM size_] _
        try refine Blk.nx ?_
        exact (hk3 size_).weak (.same (.same (.same (.same (.same .nil)))))
      · intro hk3
        refine blk_nil ?_
        try refine Blk.nx ?_
        exact (hk3 size_).weak (.same (.same (.same (.same (.same .nil)))))
  · intro _
    show Blk _ _ _ _ _ [iM data_, iM at_, none, none, none] ((m_u_law_due_length_k4) ())
    unfold m_u_law_due_length_k4
    try refine Blk.nx ?_
    have hr_ := ((ev_as (ev_tup (f := (fun (y : Str × Str × Unit) => T2.mk y.1 y.2.1)) (ea_cons (ev_str (x := "refused")) (ea_cons (ev_str (x := "form")) ea_nil)) (fun _ => rfl) (fun _ => by show 2 ≤ 100000; decide)) toD (fun _ => rfl) rfl) : EvX K (W0 E) [iM data_, iM at_, none, none, none] _ _)
    exact blk_ret L trivial (by exact hr_)
noncomputable def m_u_law_lengths_k3 (other_ : Int) (before_ : (List Int)) : (List Int) → Res Bool := fun data_ =>   ((m_u_law_told (1 : Int) (toD data_) ((before_).length : Int)).bind fun (t142 : D) => (m_u_law_due_length data_ ((before_).length : Int)).bind fun (t143 : D) => Res.need ((toD t142).okq = true ∧ (toD t143).okq = true) (Res.ok (!pyEq (toD t142) (toD t143)))).bind fun b => cond b   ((Res.ok false))   (((m_u_law_told (0 : Int) (toD ((-(1 : Int)) - other_)) (0 : Int)).bind fun (t144 : D) => Res.need ((toD t144).okq = true ∧ (toD (T2.mk ("refused" : Str) ("range" : Str))).okq = true) (Res.ok (pyEq (toD t144) (toD (T2.mk ("refused" : Str) ("range" : Str)))))).bind fun b146 => cond b146 ((m_u_law_told (0 : Int) (toD ((65536 : Int) + other_)) (0 : Int)).bind fun (t145 : D) => Res.need ((toD t145).okq = true ∧ (toD (T2.mk ("refused" : Str) ("range" : Str))).okq = true) (Res.ok (pyEq (toD t145) (toD (T2.mk ("refused" : Str) ("range" : Str)))))) (Res.ok false))
noncomputable def m_u_law_lengths_k5 (other_ : Int) (before_ : (List Int)) : (List Int) → Res Bool := fun data_ =>   (m_u_law_lengths_k3 other_ before_) data_
noncomputable def m_u_law_lengths (cell_ : Int) (other_ : Int) : Res Bool :=
  (m_u_law_size cell_).bind fun (size_ : Int) =>   ((((m_u_law_told (0 : Int) (toD size_) (0 : Int)).bind fun a122 => ((m_u_law_length size_).bind fun a120 => Res.ok (a120, ())).bind fun a123 => Res.ok (a122, a123)).bind fun p124 => m_u_law_is_list p124.1 p124.2.1).bind fun (t125 : Bool) => Res.ok (!t125)).bind fun b => cond b   ((Res.ok false))   ((m_u_law_bytes other_ (other_ % (4 : Int))).bind fun (before_ : (List Int)) =>   (((m_u_law_length size_).bind fun (t126 : (List Int)) => Res.need (before_.length + t126.length ≤ 16777216) (Res.ok (before_ ++ t126))).bind fun (t127 : (List Int)) => (Res.need (RepOk ([(other_ % (256 : Int))] : List Int).length ((other_ / (4 : Int)) % (3 : Int))) (Res.ok (List.replicate ((other_ / (4 : Int)) % (3 : Int)).toNat ([(other_ % (256 : Int))] : List Int)).flatten)).bind fun (t128 : (List Int)) => Res.need (t127.length + t128.length ≤ 16777216) (Res.ok (t127 ++ t128))).bind fun (data_ : (List Int)) =>   ((m_u_law_told (1 : Int) (toD data_) ((before_).length : Int)).bind fun (t138 : D) => (((((((m_u_law_length size_).bind fun a129 => Res.ok (a129, ())).bind fun p131 => Res.ok ((p131.1).length : Int)).bind fun (t132 : Int) => Res.ok (((before_).length : Int) + t132)).bind fun a133 => Res.ok (a133, ())).bind fun a136 => Res.ok (size_, a136)).bind fun p137 => Res.ok (T2.mk p137.1 p137.2.1)).bind fun (t139 : (T2 Int Int)) => Res.need ((toD t138).okq = true ∧ (toD t139).okq = true) (Res.ok (!pyEq (toD t138) (toD t139)))).bind fun b => cond b   ((Res.ok false))   (((Res.need (before_.length + ([((127 : Int) + ((other_ / (12 : Int)) % (6 : Int)))] : List Int).length ≤ 16777216) (Res.ok (before_ ++ ([((127 : Int) + ((other_ / (12 : Int)) % (6 : Int)))] : List Int)))).bind fun (t140 : (List Int)) => (m_u_law_bytes (other_ + (1 : Int)) ((other_ / (72 : Int)) % (4 : Int))).bind fun (t141 : (List Int)) => Res.need (t140.length + t141.length ≤ 16777216) (Res.ok (t140 ++ t141))).bind fun (data_ : (List Int)) =>   (cond (decide (((other_ / (288 : Int)) % (4 : Int)) = (1 : Int))) ((Res.ok (decide ((((before_).length : Int) + (1 : Int)) < (data_.length : Int))))) (Res.ok false)).bind fun b => cond b   ((idx ([(0 : Int), (127 : Int), (128 : Int), (1 : Int)] : List Int) ((other_ / (1152 : Int)) % (4 : Int))).bind fun (y147 : Int) => ((Res.ok (((before_).length : Int) + (1 : Int)))).bind fun (j148 : Int) => match ixN data_.length j148 with | some a149 => (m_u_law_lengths_k5 other_ before_) (data_.set a149 y147) | none => Res.stuck)   ((m_u_law_lengths_k3 other_ before_) data_)))
theorem ok_u_law_lengths {P : Program} {w : World} {K : PySem.W.Frag} {mg : Str → Option Value} {base : Heap} (T : Facts P w K mg) {fd : FuncData} (F : FnP K "_law_lengths" "_law_lengths" s_u_law_lengths (He.ga K "_law_lengths") fd) :
    FnOk P w K mg base (L2.CX P w) 18 (He.ga K "_law_lengths") fd ["cell", "other"] (spM K (fun (p : Int × Int × Unit) => m_u_law_lengths p.1 p.2.1)) := by
  obtain ⟨fd_u_law_bytes, F_u_law_bytes⟩ := T.d_u_law_bytes
  have G_u_law_bytes := ok_u_law_bytes (P := P) (w := w) (base := base) T F_u_law_bytes
  have b_u_law_bytes : Binds K fd_u_law_bytes ["cell", "size"] [] := F_u_law_bytes.bindsN fun _ _ _ _ _ _ us hl => match us, hl with | [_, _], _ => rfl
  obtain ⟨fd_u_law_due_length, F_u_law_due_length⟩ := T.d_u_law_due_length
  have G_u_law_due_length := ok_u_law_due_length (P := P) (w := w) (base := base) T F_u_law_due_length
  have b_u_law_due_length : Binds K fd_u_law_due_length ["data", "at"] [] := F_u_law_due_length.bindsN fun _ _ _ _ _ _ us hl => match us, hl with | [_, _], _ => rfl
  obtain ⟨fd_u_law_is_list, F_u_law_is_list⟩ := T.d_u_law_is_list
  have G_u_law_is_list := ok_u_law_is_list (P := P) (w := w) (base := base) T F_u_law_is_list
  have b_u_law_is_list : Binds K fd_u_law_is_list ["found", "due"] [] := F_u_law_is_list.bindsN fun _ _ _ _ _ _ us hl => match us, hl with | [_, _], _ => rfl
  obtain ⟨fd_u_law_length, F_u_law_length⟩ := T.d_u_law_length
  have G_u_law_length := ok_u_law_length (P := P) (w := w) (base := base) T F_u_law_length
  have b_u_law_length : Binds K fd_u_law_length ["size"] [] := F_u_law_length.bindsN fun _ _ _ _ _ _ us hl => match us, hl with | [_], _ => rfl
  obtain ⟨fd_u_law_size, F_u_law_size⟩ := T.d_u_law_size
  have G_u_law_size := ok_u_law_size (P := P) (w := w) (base := base) T F_u_law_size
  have b_u_law_size : Binds K fd_u_law_size ["cell"] [] := F_u_law_size.bindsN fun _ _ _ _ _ _ us hl => match us, hl with | [_], _ => rfl
  obtain ⟨fd_u_law_told, F_u_law_told⟩ := T.d_u_law_told
  have G_u_law_told := ok_u_law_told (P := P) (w := w) (base := base) T F_u_law_told
  have b_u_law_told : Binds K fd_u_law_told ["which", "data", "at"] [] := F_u_law_told.bindsN fun _ _ _ _ _ _ us hl => match us, hl with | [_, _, _], _ => rfl
  refine fn_ok F sc_u_law_lengths (fun y => rfl) (fun cdv A outer s H E hr => ?_)
  refine ⟨_, (pss_cons (ps_set (i := 2) sc_u_law_lengths.nd rfl (Or.inl rfl) (pe_callS G_u_law_size (hr.mono (by decide)) rfl T.g_u_law_size F_u_law_size.kp b_u_law_size (fun σ => passAt (takes_of rfl rfl rfl rfl) σ) (pa_cons (pv 0) pa_nil))) (pss_cons (ps_if (pt_not (pt_val (pe_callS G_u_law_is_list (hr.mono (by decide)) rfl T.g_u_law_is_list F_u_law_is_list.kp b_u_law_is_list (fun σ => passAt (takes_of rfl rfl rfl rfl) σ) (pa_cons (pe_callS G_u_law_told (hr.mono (by decide)) rfl T.g_u_law_told F_u_law_told.kp b_u_law_told (fun σ => passAt (takes_of rfl rfl rfl rfl) σ) (pa_cons pe_int (pa_cons (pv 2) (pa_cons pe_int pa_nil)))) (pa_cons (pe_callS G_u_law_length (hr.mono (by decide)) rfl T.g_u_law_length F_u_law_length.kp b_u_law_length (fun σ => passAt (takes_of rfl rfl rfl rfl) σ) (pa_cons (pv 2) pa_nil)) pa_nil))))) (pss_one (ps_ret pe_bl)) pss_nil) (pss_cons (ps_set (i := 3) sc_u_law_lengths.nd rfl (Or.inl rfl) (pe_callS G_u_law_bytes (hr.mono (by decide)) rfl T.g_u_law_bytes F_u_law_bytes.kp b_u_law_bytes (fun σ => passAt (takes_of rfl rfl rfl rfl) σ) (pa_cons (pv 1) (pa_cons (pe_op op_mod (pv 1) pe_int) pa_nil)))) (pss_cons (ps_set (i := 4) sc_u_law_lengths.nd rfl (Or.inl rfl) (pe_op op_cat (pe_op op_cat (pv 3) (pe_callS G_u_law_length (hr.mono (by decide)) rfl T.g_u_law_length F_u_law_length.kp b_u_law_length (fun σ => passAt (takes_of rfl rfl rfl rfl) σ) (pa_cons (pv 2) pa_nil))) (pe_op op_rep (pe_lst (pa_cons (pe_op op_mod (pv 1) pe_int) pa_nil)) (pe_op op_mod (pe_op op_fdiv (pv 1) pe_int) pe_int)))) (pss_cons (ps_if (pt_cmpR (op_neD (Room.units hr)) (pe_callS G_u_law_told (hr.mono (by decide)) rfl T.g_u_law_told F_u_law_told.kp b_u_law_told (fun σ => passAt (takes_of rfl rfl rfl rfl) σ) (pa_cons pe_int (pa_cons (pe_callTy (T := "list") (cr_listof rfl) (by rfl) T.n_list (by decide +kernel) (pa_cons (pv 4) pa_nil)) (pa_cons (pe_callB (cr_len rfl) (by rfl) T.n_len (by decide +kernel) (pa_cons (pv 3) pa_nil)) pa_nil)))) (pe_tup (pa_cons (pv 2) (pa_cons (pe_op op_add (pe_callB (cr_len rfl) (by rfl) T.n_len (by decide +kernel) (pa_cons (pv 3) pa_nil)) (pe_callB (cr_len rfl) (by rfl) T.n_len (by decide +kernel) (pa_cons (pe_callS G_u_law_length (hr.mono (by decide)) rfl T.g_u_law_length F_u_law_length.kp b_u_law_length (fun σ => passAt (takes_of rfl rfl rfl rfl) σ) (pa_cons (pv 2) pa_nil)) pa_nil))) pa_nil))) (nomark _)) (pss_one (ps_ret pe_bl)) pss_nil) (pss_cons (ps_set (i := 4) sc_u_law_lengths.nd rfl (Or.inl rfl) (pe_op op_cat (pe_op op_cat (pv 3) (pe_lst (pa_cons (pe_op op_add pe_int (pe_op op_mod (pe_op op_fdiv (pv 1) pe_int) pe_int)) pa_nil))) (pe_callS G_u_law_bytes (hr.mono (by decide)) rfl T.g_u_law_bytes F_u_law_bytes.kp b_u_law_bytes (fun σ => passAt (takes_of rfl rfl rfl rfl) σ) (pa_cons (pe_op op_add (pv 1) pe_int) (pa_cons (pe_op op_mod (pe_op op_fdiv (pv 1) pe_int) pe_int) pa_nil))))) (pss_cons (ps_if (PW.pt (pw_and (pt_cmpR op_eq (pe_op op_mod (pe_op op_fdiv (pv 1) pe_int) pe_int) pe_int (nomark _)) (pw_and1 (pt_cmpR op_gt (pe_callB (cr_len rfl) (by rfl) T.n_len (by decide +kernel) (pa_cons (pv 4) pa_nil)) (pe_op op_add (pe_callB (cr_len rfl) (by rfl) T.n_len (by decide +kernel) (pa_cons (pv 3) pa_nil)) pe_int) (nomark _))))) (pss_one (ps_asg (pe_ix (cr_ixL rfl) (pe_lst (pa_cons pe_int (pa_cons pe_int (pa_cons pe_int (pa_cons pe_int pa_nil))))) (pe_op op_mod (pe_op op_fdiv (pv 1) pe_int) pe_int) (fun _ _ => rfl)) (pg_sub (pv 4) (pe_op op_add (pe_callB (cr_len rfl) (by rfl) T.n_len (by decide +kernel) (pa_cons (pv 3) pa_nil)) pe_int) set_list))) pss_nil) (pss_cons (ps_if (pt_cmpR (op_neD (Room.units hr)) (pe_callS G_u_law_told (hr.mono (by decide)) rfl T.g_u_law_told F_u_law_told.kp b_u_law_told (fun σ => passAt (takes_of rfl rfl rfl rfl) σ) (pa_cons pe_int (pa_cons (pe_callTy (T := "list") (cr_listof rfl) (by rfl) T.n_list (by decide +kernel) (pa_cons (pv 4) pa_nil)) (pa_cons (pe_callB (cr_len rfl) (by rfl) T.n_len (by decide +kernel) (pa_cons (pv 3) pa_nil)) pa_nil)))) (pe_callS G_u_law_due_length (hr.mono (by decide)) rfl T.g_u_law_due_length F_u_law_due_length.kp b_u_law_due_length (fun σ => passAt (takes_of rfl rfl rfl rfl) σ) (pa_cons (pv 4) (pa_cons (pe_callB (cr_len rfl) (by rfl) T.n_len (by decide +kernel) (pa_cons (pv 3) pa_nil)) pa_nil))) (nomark _)) (pss_one (ps_ret pe_bl)) pss_nil) (pss_one (ps_ret (pe_and (pe_cmpR (op_eqD (Room.units hr)) (pe_callS G_u_law_told (hr.mono (by decide)) rfl T.g_u_law_told F_u_law_told.kp b_u_law_told (fun σ => passAt (takes_of rfl rfl rfl rfl) σ) (pa_cons pe_int (pa_cons (pe_op op_sub (pe_un un_neg pe_int) (pv 1)) (pa_cons pe_int pa_nil)))) (pe_tup (pa_cons pe_str (pa_cons pe_str pa_nil))) (nomark _)) (pe_one (pe_cmpR (op_eqD (Room.units hr)) (pe_callS G_u_law_told (hr.mono (by decide)) rfl T.g_u_law_told F_u_law_told.kp b_u_law_told (fun σ => passAt (takes_of rfl rfl rfl rfl) σ) (pa_cons pe_int (pa_cons (pe_op op_add pe_int (pv 1)) (pa_cons pe_int pa_nil)))) (pe_tup (pa_cons pe_str (pa_cons pe_str pa_nil))) (nomark _)))))))))))))), ?_⟩
  rintro ⟨cell_, other_, ⟨⟩⟩ F0 H0 Q KP L
  show Blk K F0 H0 KP _ [iM cell_, iM other_, none, none, none] (m_u_law_lengths cell_ other_)
  unfold m_u_law_lengths
  have hs_ := ((ev_call (f := (fun (p : Int × Unit) => m_u_law_size p.1)) (ea_cons (ev_var (i := 0) (x := cell_) rfl) ea_nil)) : EvX K (W0 E) [iM cell_, iM other_, none, none, none] _ _)
  refine blk_seq (blk_set (i := 2) L trivial (by exact hs_) fun size_ => ?_)
  show Blk _ _ _ _ _ [iM cell_, iM other_, iM size_, none, none] _
  try refine Blk.nx ?_
  have ht_ := ((et_not (et_B (ev_call (f := (fun (p : D × (List Int) × Unit) => m_u_law_is_list p.1 p.2.1)) (ea_cons (ev_call (f := (fun (p : Int × D × Int × Unit) => m_u_law_told p.1 p.2.1 p.2.2.1)) (ea_cons (ev_int (i := 0)) (ea_cons (ev_as (ev_var (i := 2) (x := size_) rfl) toD (fun _ => rfl) rfl) (ea_cons (ev_int (i := 0)) ea_nil)))) (ea_cons (ev_call (f := (fun (p : Int × Unit) => m_u_law_length p.1)) (ea_cons (ev_var (i := 2) (x := size_) rfl) ea_nil)) ea_nil))))) : EvT K (W0 E) [iM cell_, iM other_, iM size_, none, none] _ _)
  refine blk_seq (blk_if2 L trivial (by exact ht_) ?_ ?_)
  · have hr_ := ((ev_bl (b := false)) : EvX K (W0 E) [iM cell_, iM other_, iM size_, none, none] _ _)
    exact blk_ret L trivial (by exact hr_)
  · refine blk_nil ?_
    try refine Blk.nx ?_
    have hs_ := ((ev_call (f := (fun (p : Int × Int × Unit) => m_u_law_bytes p.1 p.2.1)) (ea_cons (ev_var (i := 1) (x := other_) rfl) (ea_cons (ev_opI (C := (fun _ j => 0 < j)) (g := fun i j => i % j) (fun x y _ h => by cases h; (show (0 : Int) < _; decide)) (ev_var (i := 1) (x := other_) rfl) (ev_int (i := 4))) ea_nil))) : EvX K (W0 E) [iM cell_, iM other_, iM size_, none, none] _ _)
    refine blk_seq (blk_set (i := 3) L trivial (by exact hs_) fun before_ => ?_)
    show Blk _ _ _ _ _ [iM cell_, iM other_, iM size_, iM before_, none] _
    try refine Blk.nx ?_
    have hs_ := ((en_cat (ev_ofN (en_cat (ev_var (i := 3) (x := before_) rfl) (ev_call (f := (fun (p : Int × Unit) => m_u_law_length p.1)) (ea_cons (ev_var (i := 2) (x := size_) rfl) ea_nil)))) (ev_ofN (en_rep (ev_ofN (en_lst (f := (fun y => ([y.1] : List Int))) (ea_cons (ev_opI (C := (fun _ j => 0 < j)) (g := fun i j => i % j) (fun x y _ h => by cases h; (show (0 : Int) < _; decide)) (ev_var (i := 1) (x := other_) rfl) (ev_int (i := 256))) ea_nil) (fun _ => rfl) (fun _ => by show 1 ≤ 100000; decide))) (ev_opI (C := (fun _ j => 0 < j)) (g := fun i j => i % j) (fun x y _ h => by cases h; (show (0 : Int) < _; decide)) (ev_opI (C := CDiv) (g := fun i j => i / j) (fun x y _ h => by cases h; exact ⟨by decide, by decide⟩) (ev_var (i := 1) (x := other_) rfl) (ev_int (i := 4))) (ev_int (i := 3)))))) : EvN K (W0 E) [iM cell_, iM other_, iM size_, iM before_, none] _ _)
    refine blk_seq (blk_own (i := 4) L trivial (by exact hs_) fun data_ => ?_)
    show Blk _ _ _ _ _ [iM cell_, iM other_, iM size_, iM before_, oW data_] _
    try refine Blk.nx ?_
    have ht_ := ((et_test (ev_op opx_neD mild_need (ev_call (f := (fun (p : Int × D × Int × Unit) => m_u_law_told p.1 p.2.1 p.2.2.1)) (ea_cons (ev_int (i := 1)) (ea_cons (ev_as (ev_ofN (en_listO (j := 4) (xs := data_) rfl)) toD (fun _ => rfl) rfl) (ea_cons (ev_cb cx_len (fun _ _ h => nomatch h) (ea_cons (ev_var (i := 3) (x := before_) rfl) ea_nil)) ea_nil)))) (ev_tup (f := (fun (y : Int × Int × Unit) => T2.mk y.1 y.2.1)) (ea_cons (ev_var (i := 2) (x := size_) rfl) (ea_cons (ev_op (opx_I0 (g := fun i j => i + j)) mild_ok (ev_cb cx_len (fun _ _ h => nomatch h) (ea_cons (ev_var (i := 3) (x := before_) rfl) ea_nil)) (ev_cb cx_len (fun _ _ h => nomatch h) (ea_cons (ev_call (f := (fun (p : Int × Unit) => m_u_law_length p.1)) (ea_cons (ev_var (i := 2) (x := size_) rfl) ea_nil)) ea_nil))) ea_nil)) (fun _ => rfl) (fun _ => by show 2 ≤ 100000; decide)))) : EvT K (W0 E) [iM cell_, iM other_, iM size_, iM before_, oW data_] _ _)
    refine blk_seq (blk_if2 L trivial (by exact ht_) ?_ ?_)
    · refine blk_freeze 4 rfl ?_
      show Blk _ _ _ _ _ [iM cell_, iM other_, iM size_, iM before_, iM data_] _
      have hr_ := ((ev_bl (b := false)) : EvX K (W0 E) [iM cell_, iM other_, iM size_, iM before_, iM data_] _ _)
      exact blk_ret L trivial (by exact hr_)
    · refine blk_nil ?_
      try refine Blk.nx ?_
      have hs_ := ((en_cat (ev_ofN (en_cat (ev_var (i := 3) (x := before_) rfl) (ev_ofN (en_lst (f := (fun y => ([y.1] : List Int))) (ea_cons (ev_op (opx_I0 (g := fun i j => i + j)) mild_ok (ev_int (i := 127)) (ev_opI (C := (fun _ j => 0 < j)) (g := fun i j => i % j) (fun x y _ h => by cases h; (show (0 : Int) < _; decide)) (ev_opI (C := CDiv) (g := fun i j => i / j) (fun x y _ h => by cases h; exact ⟨by decide, by decide⟩) (ev_var (i := 1) (x := other_) rfl) (ev_int (i := 12))) (ev_int (i := 6)))) ea_nil) (fun _ => rfl) (fun _ => by show 1 ≤ 100000; decide))))) (ev_call (f := (fun (p : Int × Int × Unit) => m_u_law_bytes p.1 p.2.1)) (ea_cons (ev_op (opx_I0 (g := fun i j => i + j)) mild_ok (ev_var (i := 1) (x := other_) rfl) (ev_int (i := 1))) (ea_cons (ev_opI (C := (fun _ j => 0 < j)) (g := fun i j => i % j) (fun x y _ h => by cases h; (show (0 : Int) < _; decide)) (ev_opI (C := CDiv) (g := fun i j => i / j) (fun x y _ h => by cases h; exact ⟨by decide, by decide⟩) (ev_var (i := 1) (x := other_) rfl) (ev_int (i := 72))) (ev_int (i := 4))) ea_nil)))) : EvN K (W0 E) [iM cell_, iM other_, iM size_, iM before_, oW data_] _ _)
      refine blk_seq (blk_own (i := 4) L trivial (by exact hs_) fun data_ => ?_)
      show Blk _ _ _ _ _ [iM cell_, iM other_, iM size_, iM before_, oW data_] _
      try refine Blk.nx ?_
      have ht_ := ((et_and (et_test (ev_op opx_eqI mild_ok (ev_opI (C := (fun _ j => 0 < j)) (g := fun i j => i % j) (fun x y _ h => by cases h; (show (0 : Int) < _; decide)) (ev_opI (C := CDiv) (g := fun i j => i / j) (fun x y _ h => by cases h; exact ⟨by decide, by decide⟩) (ev_var (i := 1) (x := other_) rfl) (ev_int (i := 288))) (ev_int (i := 4))) (ev_int (i := 1)))) (et_test (ev_op (opx_B0 (g := fun i j => decide (j < i))) mild_ok (ev_lenO (j := 4) (xs := data_) rfl) (ev_op (opx_I0 (g := fun i j => i + j)) mild_ok (ev_cb cx_len (fun _ _ h => nomatch h) (ea_cons (ev_var (i := 3) (x := before_) rfl) ea_nil)) (ev_int (i := 1)))))) : EvT K (W0 E) [iM cell_, iM other_, iM size_, iM before_, oW data_] _ _)
      refine blk_seq (blk_ifj (S := (List Int)) (fun data_ => [iM cell_, iM other_, iM size_, iM before_, iM data_]) (m_u_law_lengths_k3 other_ before_) L trivial (by exact ht_) ?_ ?_ ?_)
      · intro data_
        show Blk _ _ _ _ _ [iM cell_, iM other_, iM size_, iM before_, iM data_] ((m_u_law_lengths_k3 other_ before_) data_)
        unfold m_u_law_lengths_k3
        try refine Blk.nx ?_
        have ht_ := ((et_test (ev_op opx_neD mild_need (ev_call (f := (fun (p : Int × D × Int × Unit) => m_u_law_told p.1 p.2.1 p.2.2.1)) (ea_cons (ev_int (i := 1)) (ea_cons (ev_as (ev_ofN (en_list (ev_var (i := 4) (x := data_) rfl))) toD (fun _ => rfl) rfl) (ea_cons (ev_cb cx_len (fun _ _ h => nomatch h) (ea_cons (ev_var (i := 3) (x := before_) rfl) ea_nil)) ea_nil)))) (ev_call (f := (fun (p : (List Int) × Int × Unit) => m_u_law_due_length p.1 p.2.1)) (ea_cons (ev_var (i := 4) (x := data_) rfl) (ea_cons (ev_cb cx_len (fun _ _ h => nomatch h) (ea_cons (ev_var (i := 3) (x := before_) rfl) ea_nil)) ea_nil))))) : EvT K (W0 E) [iM cell_, iM other_, iM size_, iM before_, iM data_] _ _)
        refine blk_seq (blk_if2 L trivial (by exact ht_) ?_ ?_)
        · have hr_ := ((ev_bl (b := false)) : EvX K (W0 E) [iM cell_, iM other_, iM size_, iM before_, iM data_] _ _)
          exact blk_ret L trivial (by exact hr_)
        · refine blk_nil ?_
          try refine Blk.nx ?_
          have hr_ := ((ev_andV (ev_op opx_eqD mild_need (ev_call (f := (fun (p : Int × D × Int × Unit) => m_u_law_told p.1 p.2.1 p.2.2.1)) (ea_cons (ev_int (i := 0)) (ea_cons (ev_as (ev_op (opx_I0 (g := fun i j => i - j)) mild_ok (ev_un (g := fun i => -i) (ev_int (i := 1))) (ev_var (i := 1) (x := other_) rfl)) toD (fun _ => rfl) rfl) (ea_cons (ev_int (i := 0)) ea_nil)))) (ev_tup (f := (fun (y : Str × Str × Unit) => T2.mk y.1 y.2.1)) (ea_cons (ev_str (x := "refused")) (ea_cons (ev_str (x := "range")) ea_nil)) (fun _ => rfl) (fun _ => by show 2 ≤ 100000; decide))) (ev_op opx_eqD mild_need (ev_call (f := (fun (p : Int × D × Int × Unit) => m_u_law_told p.1 p.2.1 p.2.2.1)) (ea_cons (ev_int (i := 0)) (ea_cons (ev_as (ev_op (opx_I0 (g := fun i j => i + j)) mild_ok (ev_int (i := 65536)) (ev_var (i := 1) (x := other_) rfl)) toD (fun _ => rfl) rfl) (ea_cons (ev_int (i := 0)) ea_nil)))) (ev_tup (f := (fun (y : Str × Str × Unit) => T2.mk y.1 y.2.1)) (ea_cons (ev_str (x := "refused")) (ea_cons (ev_str (x := "range")) ea_nil)) (fun _ => rfl) (fun _ => by show 2 ≤ 100000; decide)))) : EvX K (W0 E) [iM cell_, iM other_, iM size_, iM before_, iM data_] _ _)
          exact blk_ret L trivial (by exact hr_)
      · intro hk3
        have he_ := ((ev_op opx_ixL (fun x y => idx_mild x y) (ev_ofN (en_lst (f := (fun y => ([y.1, y.2.1, y.2.2.1, y.2.2.2.1] : List Int))) (ea_cons (ev_int (i := 0)) (ea_cons (ev_int (i := 127)) (ea_cons (ev_int (i := 128)) (ea_cons (ev_int (i := 1)) ea_nil)))) (fun _ => rfl) (fun _ => by show 4 ≤ 100000; decide))) (ev_opI (C := (fun _ j => 0 < j)) (g := fun i j => i % j) (fun x y _ h => by cases h; (show (0 : Int) < _; decide)) (ev_opI (C := CDiv) (g := fun i j => i / j) (fun x y _ h => by cases h; exact ⟨by decide, by decide⟩) (ev_var (i := 1) (x := other_) rfl) (ev_int (i := 1152))) (ev_int (i := 4)))) : EvX K (W0 E) [iM cell_, iM other_, iM size_, iM before_, oW data_] _ _)
        have hi_ := ((ev_op (opx_I0 (g := fun i j => i + j)) mild_ok (ev_cb cx_len (fun _ _ h => nomatch h) (ea_cons (ev_var (i := 3) (x := before_) rfl) ea_nil)) (ev_int (i := 1))) : EvX K (W0 E) [iM cell_, iM other_, iM size_, iM before_, oW data_] _ _)
        refine blk_setI (i := 4) (xs := data_) (f := (m_u_law_lengths_k5 other_ before_)) L trivial rfl (by exact he_) (by exact hi_) fun data_ => ?_
        show Blk _ _ _ _ _ [iM cell_, iM other_, iM size_, iM before_, oW data_] ((m_u_law_lengths_k5 other_ before_) data_)
        unfold m_u_law_lengths_k5
        show Blk _ _ _ _ _ [iM cell_, iM other_, iM size_, iM before_, oW data_] _
        try refine Blk.nx ?_
        refine blk_freeze 4 rfl ?_
        show Blk _ _ _ _ _ [iM cell_, iM other_, iM size_, iM before_, iM data_] _
        exact (hk3 data_).weak (.same (.same (.same (.same (.same .nil)))))
      · intro hk3
        refine blk_nil ?_
        try refine Blk.nx ?_
        refine blk_freeze 4 rfl ?_
        show Blk _ _ _ _ _ [iM cell_, iM other_, iM size_, iM before_, iM data_] _
        exact (hk3 data_).weak (.same (.same (.same (.same (.same .nil)))))
noncomputable def m_u_law_number_k2  : Int → Res Int := fun number_ =>   ((((Res.need (CShl (1 : Int) (520 : Int)) (Res.ok ((1 : Int) * 2 ^ (520 : Int).toNat))).bind fun (t151 : Int) => Res.ok (t151 - (1 : Int))).bind fun a152 => Res.ok (a152, ())).bind fun a155 => Res.ok (number_, a155)).bind fun p156 => Res.ok (min p156.1 p156.2.1)
noncomputable def m_u_law_number_k1 (other_ : Int) : Int → Res Int := fun number_ =>   ((Res.ok (decide ((other_ % (4 : Int)) = (1 : Int))))).bind fun b => cond b   (((Res.need (CShl (128 : Int) ((8 : Int) * ((other_ / (4 : Int)) % (64 : Int)))) (Res.ok ((128 : Int) * 2 ^ ((8 : Int) * ((other_ / (4 : Int)) % (64 : Int))).toNat))).bind fun (t157 : Int) => Res.ok (t157 - ((other_ / (260 : Int)) % (2 : Int)))).bind fun (number_ : Int) =>   m_u_law_number_k2 number_)   (m_u_law_number_k2 number_)
noncomputable def m_u_law_number (cell_ : Int) (other_ : Int) : Res Int :=
  ((Res.need (CShl (1 : Int) (520 : Int)) (Res.ok ((1 : Int) * 2 ^ (520 : Int).toNat))).bind fun (t150 : Int) => Res.need (0 < t150) (Res.ok ((Int.natAbs cell_ : Int) % t150))).bind fun (number_ : Int) =>   ((Res.ok (decide ((other_ % (4 : Int)) = (0 : Int))))).bind fun b => cond b   (((Res.need (CShl (1 : Int) ((8 : Int) * ((other_ / (4 : Int)) % (65 : Int)))) (Res.ok ((1 : Int) * 2 ^ ((8 : Int) * ((other_ / (4 : Int)) % (65 : Int))).toNat))).bind fun (t158 : Int) => (idx ([(0 : Int), (1 : Int), (128 : Int)] : List Int) ((other_ / (260 : Int)) % (3 : Int))).bind fun (t159 : Int) => Res.ok (t158 - t159)).bind fun (number_ : Int) =>   ((Res.ok (max (0 : Int) number_))).bind fun (number_ : Int) =>   (m_u_law_number_k1 other_) number_)   ((m_u_law_number_k1 other_) number_)
theorem ok_u_law_number {P : Program} {w : World} {K : PySem.W.Frag} {mg : Str → Option Value} {base : Heap} (T : Facts P w K mg) {fd : FuncData} (F : FnP K "_law_number" "_law_number" s_u_law_number (He.ga K "_law_number") fd) :
    FnOk P w K mg base (L2.CX P w) 1 (He.ga K "_law_number") fd ["cell", "other"] (spM K (fun (p : Int × Int × Unit) => m_u_law_number p.1 p.2.1)) := by
  refine fn_ok F sc_u_law_number (fun y => rfl) (fun cdv A outer s H E hr => ?_)
  refine ⟨_, (pss_cons (ps_set (i := 2) sc_u_law_number.nd rfl (Or.inl rfl) (pe_op op_mod (pe_callB call_abs (by rfl) T.n_abs (by decide +kernel) (pa_cons (pv 0) pa_nil)) (pe_op op_shlW pe_int pe_int))) (pss_cons (ps_if (pt_cmpR op_eq (pe_op op_mod (pv 1) pe_int) pe_int (nomark _)) (pss_cons (ps_set (i := 2) sc_u_law_number.nd rfl (Or.inl rfl) (pe_op op_sub (pe_op op_shlW pe_int (pe_op op_mul pe_int (pe_op op_mod (pe_op op_fdiv (pv 1) pe_int) pe_int))) (pe_ix (cr_ixL rfl) (pe_lst (pa_cons pe_int (pa_cons pe_int (pa_cons pe_int pa_nil)))) (pe_op op_mod (pe_op op_fdiv (pv 1) pe_int) pe_int) (fun _ _ => rfl)))) (pss_one (ps_set (i := 2) sc_u_law_number.nd rfl (Or.inl rfl) (pe_callB (call_max2 rfl) (by rfl) T.n_max (by decide +kernel) (pa_cons pe_int (pa_cons (pv 2) pa_nil)))))) pss_nil) (pss_cons (ps_if (pt_cmpR op_eq (pe_op op_mod (pv 1) pe_int) pe_int (nomark _)) (pss_one (ps_set (i := 2) sc_u_law_number.nd rfl (Or.inl rfl) (pe_op op_sub (pe_op op_shlW pe_int (pe_op op_mul pe_int (pe_op op_mod (pe_op op_fdiv (pv 1) pe_int) pe_int))) (pe_op op_mod (pe_op op_fdiv (pv 1) pe_int) pe_int)))) pss_nil) (pss_one (ps_ret (pe_callB (call_min2 rfl) (by rfl) T.n_min (by decide +kernel) (pa_cons (pv 2) (pa_cons (pe_op op_sub (pe_op op_shlW pe_int pe_int) pe_int) pa_nil)))))))), ?_⟩
  rintro ⟨cell_, other_, ⟨⟩⟩ F0 H0 Q KP L
  show Blk K F0 H0 KP _ [iM cell_, iM other_, none] (m_u_law_number cell_ other_)
  unfold m_u_law_number
  have hs_ := ((ev_op (opx_I (C := (fun _ j => 0 < j)) (g := fun i j => i % j)) mild_need (ev_cb cx_abs (fun _ _ h => nomatch h) (ea_cons (ev_var (i := 0) (x := cell_) rfl) ea_nil)) (ev_op (opx_I (C := CShl) (g := fun i j => i * 2 ^ j.toNat)) mild_need (ev_int (i := 1)) (ev_int (i := 520)))) : EvX K (W0 E) [iM cell_, iM other_, none] _ _)
  refine blk_seq (blk_set (i := 2) L trivial (by exact hs_) fun number_ => ?_)
  show Blk _ _ _ _ _ [iM cell_, iM other_, iM number_] _
  try refine Blk.nx ?_
  have ht_ := ((et_test (ev_op opx_eqI mild_ok (ev_opI (C := (fun _ j => 0 < j)) (g := fun i j => i % j) (fun x y _ h => by cases h; (show (0 : Int) < _; decide)) (ev_var (i := 1) (x := other_) rfl) (ev_int (i := 4))) (ev_int (i := 0)))) : EvT K (W0 E) [iM cell_, iM other_, iM number_] _ _)
  refine blk_seq (blk_ifj (S := Int) (fun number_ => [iM cell_, iM other_, iM number_]) (m_u_law_number_k1 other_) L trivial (by exact ht_) ?_ ?_ ?_)
  · intro number_
    show Blk _ _ _ _ _ [iM cell_, iM other_, iM number_] ((m_u_law_number_k1 other_) number_)
    unfold m_u_law_number_k1
    try refine Blk.nx ?_
    have ht_ := ((et_test (ev_op opx_eqI mild_ok (ev_opI (C := (fun _ j => 0 < j)) (g := fun i j => i % j) (fun x y _ h => by cases h; (show (0 : Int) < _; decide)) (ev_var (i := 1) (x := other_) rfl) (ev_int (i := 4))) (ev_int (i := 1)))) : EvT K (W0 E) [iM cell_, iM other_, iM number_] _ _)
    refine blk_seq (blk_ifj (S := Int) (fun number_ => [iM cell_, iM other_, iM number_]) m_u_law_number_k2 L trivial (by exact ht_) ?_ ?_ ?_)
    · intro number_
      show Blk _ _ _ _ _ [iM cell_, iM other_, iM number_] (m_u_law_number_k2 number_)
      unfold m_u_law_number_k2
      try refine Blk.nx ?_
      have hr_ := ((ev_cb cx_min (fun _ _ h => nomatch h) (ea_cons (ev_var (i := 2) (x := number_) rfl) (ea_cons (ev_op (opx_I0 (g := fun i j => i - j)) mild_ok (ev_op (opx_I (C := CShl) (g := fun i j => i * 2 ^ j.toNat)) mild_need (ev_int (i := 1)) (ev_int (i := 520))) (ev_int (i := 1))) ea_nil))) : EvX K (W0 E) [iM cell_, iM other_, iM number_] _ _)
      exact blk_ret L trivial (by exact hr_)
    · intro hk2
      have hs_ := ((ev_op (opx_I0 (g := fun i j => i - j)) mild_ok (ev_op (opx_I (C := CShl) (g := fun i j => i * 2 ^ j.toNat)) mild_need (ev_int (i := 128)) (ev_opI (C := CMul) (g := fun i j => i * j) (fun x y h _ => by cases h; exact .inl (by decide)) (ev_int (i := 8)) (ev_opI (C := (fun _ j => 0 < j)) (g := fun i j => i % j) (fun x y _ h => by cases h; (show (0 : Int) < _; decide)) (ev_opI (C := CDiv) (g := fun i j => i / j) (fun x y _ h => by cases h; exact ⟨by decide, by decide⟩) (ev_var (i := 1) (x := other_) rfl) (ev_int (i := 4))) (ev_int (i := 64))))) (ev_opI (C := (fun _ j => 0 < j)) (g := fun i j => i % j) (fun x y _ h => by cases h; (show (0 : Int) < _; decide)) (ev_opI (C := CDiv) (g := fun i j => i / j) (fun x y _ h => by cases h; exact ⟨by decide, by decide⟩) (ev_var (i := 1) (x := other_) rfl) (ev_int (i := 260))) (ev_int (i := 2)))) : EvX K (W0 E) [iM cell_, iM other_, iM number_] _ _)
      refine blk_set (i := 2) L trivial (by exact hs_) fun number_ => ?_
      show Blk _ _ _ _ _ [iM cell_, iM other_, iM number_] _
      try refine Blk.nx ?_
      exact (hk2 number_).weak (.same (.same (.same .nil)))
    · intro hk2
      refine blk_nil ?_
      try refine Blk.nx ?_
      exact (hk2 number_).weak (.same (.same (.same .nil)))
  · intro hk1
    have hs_ := ((ev_op (opx_I0 (g := fun i j => i - j)) mild_ok (ev_op (opx_I (C := CShl) (g := fun i j => i * 2 ^ j.toNat)) mild_need (ev_int (i := 1)) (ev_opI (C := CMul) (g := fun i j => i * j) (fun x y h _ => by cases h; exact .inl (by decide)) (ev_int (i := 8)) (ev_opI (C := (fun _ j => 0 < j)) (g := fun i j => i % j) (fun x y _ h => by cases h; (show (0 : Int) < _; decide)) (ev_opI (C := CDiv) (g := fun i j => i / j) (fun x y _ h => by cases h; exact ⟨by decide, by decide⟩) (ev_var (i := 1) (x := other_) rfl) (ev_int (i := 4))) (ev_int (i := 65))))) (ev_op opx_ixL (fun x y => idx_mild x y) (ev_ofN (en_lst (f := (fun y => ([y.1, y.2.1, y.2.2.1] : List Int))) (ea_cons (ev_int (i := 0)) (ea_cons (ev_int (i := 1)) (ea_cons (ev_int (i := 128)) ea_nil))) (fun _ => rfl) (fun _ => by show 3 ≤ 100000; decide))) (ev_opI (C := (fun _ j => 0 < j)) (g := fun i j => i % j) (fun x y _ h => by cases h; (show (0 : Int) < _; decide)) (ev_opI (C := CDiv) (g := fun i j => i / j) (fun x y _ h => by cases h; exact ⟨by decide, by decide⟩) (ev_var (i := 1) (x := other_) rfl) (ev_int (i := 260))) (ev_int (i := 3))))) : EvX K (W0 E) [iM cell_, iM other_, iM number_] _ _)
    refine blk_seq (blk_set (i := 2) L trivial (by exact hs_) fun number_ => ?_)
    show Blk _ _ _ _ _ [iM cell_, iM other_, iM number_] _
    try refine Blk.nx ?_
    have hs_ := ((ev_cb cx_max (fun _ _ h => nomatch h) (ea_cons (ev_int (i := 0)) (ea_cons (ev_var (i := 2) (x := number_) rfl) ea_nil))) : EvX K (W0 E) [iM cell_, iM other_, iM number_] _ _)
    refine blk_set (i := 2) L trivial (by exact hs_) fun number_ => ?_
    show Blk _ _ _ _ _ [iM cell_, iM other_, iM number_] _
    try refine Blk.nx ?_
    exact (hk1 number_).weak (.same (.same (.same .nil)))
  · intro hk1
    refine blk_nil ?_
    try refine Blk.nx ?_
    exact (hk1 number_).weak (.same (.same (.same .nil)))
noncomputable def m_u_law_near_k4  : (List Int) → Res (List Int) := fun data_ =>   (Res.ok data_)
noncomputable def m_u_law_near_k3 (cell_ : Int) : (List Int) → Res (List Int) := fun data_ =>   (cond (decide ((cell_ % (4 : Int)) = (3 : Int))) ((Res.ok (decide (((data_).length : Int) < (120 : Int))))) (Res.ok false)).bind fun b => cond b   (((((((idx data_ (1 : Int)).bind fun (t160 : Int) => Res.ok (t160 + (1 : Int))).bind fun a161 => Res.ok (a161, ((0 : Int), ()))).bind fun a164 => Res.ok ((2 : Int), a164)).bind fun p165 => Res.ok ([p165.1, p165.2.1, p165.2.2.1] : List Int)).bind fun (t166 : (List Int)) => Res.need (t166.length + (cutL data_ (some (2 : Int)) none).length ≤ 16777216) (Res.ok (t166 ++ (cutL data_ (some (2 : Int)) none)))).bind fun (data_ : (List Int)) =>   m_u_law_near_k4 data_)   (m_u_law_near_k4 data_)
noncomputable def m_u_law_near_k2 (cell_ : Int) (at_ : Int) : (List Int) → Res (List Int) := fun data_ =>   ((Res.ok (decide ((cell_ % (4 : Int)) = (2 : Int))))).bind fun b => cond b   (((((Res.ok none).bind fun (lo167 : Option Int) => (Res.ok (some at_)).bind fun (hi168 : Option Int) => Res.ok (cutL data_ lo167 hi168)).bind fun (t172 : (List Int)) => (((idx ([(0 : Int), (255 : Int), ((cell_ / (4000 : Int)) % (256 : Int))] : List Int) ((cell_ / (1000 : Int)) % (3 : Int))).bind fun a169 => Res.ok (a169, ())).bind fun p171 => Res.ok ([p171.1] : List Int)).bind fun (t173 : (List Int)) => Res.need (t172.length + t173.length ≤ 16777216) (Res.ok (t172 ++ t173))).bind fun (t176 : (List Int)) => ((Res.ok (some at_)).bind fun (lo174 : Option Int) => (Res.ok none).bind fun (hi175 : Option Int) => Res.ok (cutL data_ lo174 hi175)).bind fun (t177 : (List Int)) => Res.need (t176.length + t177.length ≤ 16777216) (Res.ok (t176 ++ t177))).bind fun (data_ : (List Int)) =>   (m_u_law_near_k3 cell_) data_)   ((m_u_law_near_k3 cell_) data_)
noncomputable def m_u_law_near_k1 (cell_ : Int) (at_ : Int) : (List Int) → Res (List Int) := fun data_ =>   ((Res.ok (decide ((cell_ % (4 : Int)) = (1 : Int))))).bind fun b => cond b   ((((Res.ok none).bind fun (lo178 : Option Int) => (Res.ok (some at_)).bind fun (hi179 : Option Int) => Res.ok (cutL data_ lo178 hi179)).bind fun (t182 : (List Int)) => ((Res.ok (some (at_ + (1 : Int)))).bind fun (lo180 : Option Int) => (Res.ok none).bind fun (hi181 : Option Int) => Res.ok (cutL data_ lo180 hi181)).bind fun (t183 : (List Int)) => Res.need (t182.length + t183.length ≤ 16777216) (Res.ok (t182 ++ t183))).bind fun (data_ : (List Int)) =>   (m_u_law_near_k2 cell_ at_) data_)   ((m_u_law_near_k2 cell_ at_) data_)
noncomputable def m_u_law_near_k5 (cell_ : Int) (at_ : Int) : (List Int) → Res (List Int) := fun data_ =>   (m_u_law_near_k1 cell_ at_) data_
noncomputable def m_u_law_near (form_ : (List Int)) (cell_ : Int) : Res (List Int) :=
  ((Res.ok form_)).bind fun (data_ : (List Int)) =>   (Res.need (0 < (data_.length : Int)) (Res.ok ((cell_ / (4 : Int)) % (data_.length : Int)))).bind fun (at_ : Int) =>   ((Res.ok (decide ((cell_ % (4 : Int)) = (0 : Int))))).bind fun b => cond b   (((Res.ok ((cell_ / (4000 : Int)) % (256 : Int)))).bind fun (y184 : Int) => ((Res.ok at_)).bind fun (j185 : Int) => match ixN data_.length j185 with | some a186 => (m_u_law_near_k5 cell_ at_) (data_.set a186 y184) | none => Res.stuck)   ((m_u_law_near_k1 cell_ at_) data_)
theorem ok_u_law_near {P : Program} {w : World} {K : PySem.W.Frag} {mg : Str → Option Value} {base : Heap} (T : Facts P w K mg) {fd : FuncData} (F : FnP K "_law_near" "_law_near" s_u_law_near (He.ga K "_law_near") fd) :
    FnOk P w K mg base (L2.CX P w) 1 (He.ga K "_law_near") fd ["form", "cell"] (spM K (fun (p : (List Int) × Int × Unit) => m_u_law_near p.1 p.2.1)) := by
  refine fn_ok F sc_u_law_near (fun y => rfl) (fun cdv A outer s H E hr => ?_)
  refine ⟨_, (pss_cons (ps_set (i := 2) sc_u_law_near.nd rfl (Or.inl rfl) (pe_callTy (T := "list") (cr_listof rfl) (by rfl) T.n_list (by decide +kernel) (pa_cons (pv 0) pa_nil))) (pss_cons (ps_set (i := 3) sc_u_law_near.nd rfl (Or.inl rfl) (pe_op op_mod (pe_op op_fdiv (pv 1) pe_int) (pe_callB (cr_len rfl) (by rfl) T.n_len (by decide +kernel) (pa_cons (pv 2) pa_nil)))) (pss_cons (ps_if (pt_cmpR op_eq (pe_op op_mod (pv 1) pe_int) pe_int (nomark _)) (pss_one (ps_asg (pe_op op_mod (pe_op op_fdiv (pv 1) pe_int) pe_int) (pg_sub (pv 2) (pv 3) set_list))) pss_nil) (pss_cons (ps_if (pt_cmpR op_eq (pe_op op_mod (pv 1) pe_int) pe_int (nomark _)) (pss_one (ps_set (i := 2) sc_u_law_near.nd rfl (Or.inl rfl) (pe_op op_cat (pe_slice (cr_slL rfl) (pv 2) po_none (po_some (pv 3))) (pe_slice (cr_slL rfl) (pv 2) (po_some (pe_op op_add (pv 3) pe_int)) po_none)))) pss_nil) (pss_cons (ps_if (pt_cmpR op_eq (pe_op op_mod (pv 1) pe_int) pe_int (nomark _)) (pss_one (ps_set (i := 2) sc_u_law_near.nd rfl (Or.inl rfl) (pe_op op_cat (pe_op op_cat (pe_slice (cr_slL rfl) (pv 2) po_none (po_some (pv 3))) (pe_lst (pa_cons (pe_ix (cr_ixL rfl) (pe_lst (pa_cons pe_int (pa_cons pe_int (pa_cons (pe_op op_mod (pe_op op_fdiv (pv 1) pe_int) pe_int) pa_nil)))) (pe_op op_mod (pe_op op_fdiv (pv 1) pe_int) pe_int) (fun _ _ => rfl)) pa_nil))) (pe_slice (cr_slL rfl) (pv 2) (po_some (pv 3)) po_none)))) pss_nil) (pss_cons (ps_if (PW.pt (pw_and (pt_cmpR op_eq (pe_op op_mod (pv 1) pe_int) pe_int (nomark _)) (pw_and1 (pt_cmpR op_lt (pe_callB (cr_len rfl) (by rfl) T.n_len (by decide +kernel) (pa_cons (pv 2) pa_nil)) pe_int (nomark _))))) (pss_one (ps_set (i := 2) sc_u_law_near.nd rfl (Or.inl rfl) (pe_op op_cat (pe_lst (pa_cons pe_int (pa_cons (pe_op op_add (pe_ix (cr_ixL rfl) (pv 2) pe_int (fun _ _ => rfl)) pe_int) (pa_cons pe_int pa_nil)))) (pe_slice (cr_slL rfl) (pv 2) (po_some pe_int) po_none)))) pss_nil) (pss_one (ps_ret (pv 2))))))))), ?_⟩
  rintro ⟨form_, cell_, ⟨⟩⟩ F0 H0 Q KP L
  show Blk K F0 H0 KP _ [iM form_, iM cell_, none, none] (m_u_law_near form_ cell_)
  unfold m_u_law_near
  have hs_ := ((en_list (ev_var (i := 0) (x := form_) rfl)) : EvN K (W0 E) [iM form_, iM cell_, none, none] _ _)
  refine blk_seq (blk_own (i := 2) L trivial (by exact hs_) fun data_ => ?_)
  show Blk _ _ _ _ _ [iM form_, iM cell_, oW data_, none] _
  try refine Blk.nx ?_
  have hs_ := ((ev_op (opx_I (C := (fun _ j => 0 < j)) (g := fun i j => i % j)) mild_need (ev_opI (C := CDiv) (g := fun i j => i / j) (fun x y _ h => by cases h; exact ⟨by decide, by decide⟩) (ev_var (i := 1) (x := cell_) rfl) (ev_int (i := 4))) (ev_lenO (j := 2) (xs := data_) rfl)) : EvX K (W0 E) [iM form_, iM cell_, oW data_, none] _ _)
  refine blk_seq (blk_set (i := 3) L trivial (by exact hs_) fun at_ => ?_)
  show Blk _ _ _ _ _ [iM form_, iM cell_, oW data_, iM at_] _
  try refine Blk.nx ?_
  have ht_ := ((et_test (ev_op opx_eqI mild_ok (ev_opI (C := (fun _ j => 0 < j)) (g := fun i j => i % j) (fun x y _ h => by cases h; (show (0 : Int) < _; decide)) (ev_var (i := 1) (x := cell_) rfl) (ev_int (i := 4))) (ev_int (i := 0)))) : EvT K (W0 E) [iM form_, iM cell_, oW data_, iM at_] _ _)
  refine blk_seq (blk_ifj (S := (List Int)) (fun data_ => [iM form_, iM cell_, iM data_, iM at_]) (m_u_law_near_k1 cell_ at_) L trivial (by exact ht_) ?_ ?_ ?_)
  · intro data_
    show Blk _ _ _ _ _ [iM form_, iM cell_, iM data_, iM at_] ((m_u_law_near_k1 cell_ at_) data_)
    unfold m_u_law_near_k1
    try refine Blk.nx ?_
    have ht_ := ((et_test (ev_op opx_eqI mild_ok (ev_opI (C := (fun _ j => 0 < j)) (g := fun i j => i % j) (fun x y _ h => by cases h; (show (0 : Int) < _; decide)) (ev_var (i := 1) (x := cell_) rfl) (ev_int (i := 4))) (ev_int (i := 1)))) : EvT K (W0 E) [iM form_, iM cell_, iM data_, iM at_] _ _)
    refine blk_seq (blk_ifj (S := (List Int)) (fun data_ => [iM form_, iM cell_, iM data_, iM at_]) (m_u_law_near_k2 cell_ at_) L trivial (by exact ht_) ?_ ?_ ?_)
    · intro data_
      show Blk _ _ _ _ _ [iM form_, iM cell_, iM data_, iM at_] ((m_u_law_near_k2 cell_ at_) data_)
      unfold m_u_law_near_k2
      try refine Blk.nx ?_
      have ht_ := ((et_test (ev_op opx_eqI mild_ok (ev_opI (C := (fun _ j => 0 < j)) (g := fun i j => i % j) (fun x y _ h => by cases h; (show (0 : Int) < _; decide)) (ev_var (i := 1) (x := cell_) rfl) (ev_int (i := 4))) (ev_int (i := 2)))) : EvT K (W0 E) [iM form_, iM cell_, iM data_, iM at_] _ _)
      refine blk_seq (blk_ifj (S := (List Int)) (fun data_ => [iM form_, iM cell_, iM data_, iM at_]) (m_u_law_near_k3 cell_) L trivial (by exact ht_) ?_ ?_ ?_)
      · intro data_
        show Blk _ _ _ _ _ [iM form_, iM cell_, iM data_, iM at_] ((m_u_law_near_k3 cell_) data_)
        unfold m_u_law_near_k3
        try refine Blk.nx ?_
        have ht_ := ((et_and (et_test (ev_op opx_eqI mild_ok (ev_opI (C := (fun _ j => 0 < j)) (g := fun i j => i % j) (fun x y _ h => by cases h; (show (0 : Int) < _; decide)) (ev_var (i := 1) (x := cell_) rfl) (ev_int (i := 4))) (ev_int (i := 3)))) (et_test (ev_op (opx_B0 (g := fun i j => decide (i < j))) mild_ok (ev_cb cx_len (fun _ _ h => nomatch h) (ea_cons (ev_var (i := 2) (x := data_) rfl) ea_nil)) (ev_int (i := 120))))) : EvT K (W0 E) [iM form_, iM cell_, iM data_, iM at_] _ _)
        refine blk_seq (blk_ifj (S := (List Int)) (fun data_ => [iM form_, iM cell_, iM data_, iM at_]) m_u_law_near_k4 L trivial (by exact ht_) ?_ ?_ ?_)
        · intro data_
          show Blk _ _ _ _ _ [iM form_, iM cell_, iM data_, iM at_] (m_u_law_near_k4 data_)
          unfold m_u_law_near_k4
          try refine Blk.nx ?_
          have hr_ := ((ev_var (i := 2) (x := data_) rfl) : EvX K (W0 E) [iM form_, iM cell_, iM data_, iM at_] _ _)
          exact blk_ret L trivial (by exact hr_)
        · intro hk4
          have hs_ := ((ev_ofN (en_cat (ev_ofN (en_lst (f := (fun y => ([y.1, y.2.1, y.2.2.1] : List Int))) (ea_cons (ev_int (i := 2)) (ea_cons (ev_op (opx_I0 (g := fun i j => i + j)) mild_ok (ev_op opx_ixL (fun x y => idx_mild x y) (ev_var (i := 2) (x := data_) rfl) (ev_int (i := 1))) (ev_int (i := 1))) (ea_cons (ev_int (i := 0)) ea_nil))) (fun _ => rfl) (fun _ => by show 3 ≤ 100000; decide))) (ev_ofN (en_slice (lo := (some (2 : Int))) (hi := none) (ev_var (i := 2) (x := data_) rfl) to_int to_none)))) : EvX K (W0 E) [iM form_, iM cell_, iM data_, iM at_] _ _)
          refine blk_set (i := 2) L trivial (by exact hs_) fun data_ => ?_
          show Blk _ _ _ _ _ [iM form_, iM cell_, iM data_, iM at_] _
          try refine Blk.nx ?_
          exact (hk4 data_).weak (.same (.same (.same (.same .nil))))
        · intro hk4
          refine blk_nil ?_
          try refine Blk.nx ?_
          exact (hk4 data_).weak (.same (.same (.same (.same .nil))))
      · intro hk3
        have hs_ := ((ev_ofN (en_cat (ev_ofN (en_cat (ev_ofN (en_sliceV (ev_var (i := 2) (x := data_) rfl) ept_none (ept_some (ev_var (i := 3) (x := at_) rfl)))) (ev_ofN (en_lst (f := (fun y => ([y.1] : List Int))) (ea_cons (ev_op opx_ixL (fun x y => idx_mild x y) (ev_ofN (en_lst (f := (fun y => ([y.1, y.2.1, y.2.2.1] : List Int))) (ea_cons (ev_int (i := 0)) (ea_cons (ev_int (i := 255)) (ea_cons (ev_opI (C := (fun _ j => 0 < j)) (g := fun i j => i % j) (fun x y _ h => by cases h; (show (0 : Int) < _; decide)) (ev_opI (C := CDiv) (g := fun i j => i / j) (fun x y _ h => by cases h; exact ⟨by decide, by decide⟩) (ev_var (i := 1) (x := cell_) rfl) (ev_int (i := 4000))) (ev_int (i := 256))) ea_nil))) (fun _ => rfl) (fun _ => by show 3 ≤ 100000; decide))) (ev_opI (C := (fun _ j => 0 < j)) (g := fun i j => i % j) (fun x y _ h => by cases h; (show (0 : Int) < _; decide)) (ev_opI (C := CDiv) (g := fun i j => i / j) (fun x y _ h => by cases h; exact ⟨by decide, by decide⟩) (ev_var (i := 1) (x := cell_) rfl) (ev_int (i := 1000))) (ev_int (i := 3)))) ea_nil) (fun _ => rfl) (fun _ => by show 1 ≤ 100000; decide))))) (ev_ofN (en_sliceV (ev_var (i := 2) (x := data_) rfl) (ept_some (ev_var (i := 3) (x := at_) rfl)) ept_none)))) : EvX K (W0 E) [iM form_, iM cell_, iM data_, iM at_] _ _)
        refine blk_set (i := 2) L trivial (by exact hs_) fun data_ => ?_
        show Blk _ _ _ _ _ [iM form_, iM cell_, iM data_, iM at_] _
        try refine Blk.nx ?_
        exact (hk3 data_).weak (.same (.same (.same (.same .nil))))
      · intro hk3
        refine blk_nil ?_
        try refine Blk.nx ?_
        exact (hk3 data_).weak (.same (.same (.same (.same .nil))))
    · intro hk2
      have hs_ := ((ev_ofN (en_cat (ev_ofN (en_sliceV (ev_var (i := 2) (x := data_) rfl) ept_none (ept_some (ev_var (i := 3) (x := at_) rfl)))) (ev_ofN (en_sliceV (ev_var (i := 2) (x := data_) rfl) (ept_some (ev_op (opx_I0 (g := fun i j => i + j)) mild_ok (ev_var (i := 3) (x := at_) rfl) (ev_int (i := 1)))) ept_none)))) : EvX K (W0 E) [iM form_, iM cell_, iM data_, iM at_] _ _)
      refine blk_set (i := 2) L trivial (by exact hs_) fun data_ => ?_
      show Blk _ _ _ _ _ [iM form_, iM cell_, iM data_, iM at_] _
      try refine Blk.nx ?_
      exact (hk2 data_).weak (.same (.same (.same (.same .nil))))
    · intro hk2
      refine blk_nil ?_
      try refine Blk.nx ?_
      exact (hk2 data_).weak (.same (.same (.same (.same .nil))))
  · intro hk1
    have he_ := ((ev_opI (C := (fun _ j => 0 < j)) (g := fun i j => i % j) (fun x y _ h => by cases h; (show (0 : Int) < _; decide)) (ev_opI (C := CDiv) (g := fun i j => i / j) (fun x y _ h => by cases h; exact ⟨by decide, by decide⟩) (ev_var (i := 1) (x := cell_) rfl) (ev_int (i := 4000))) (ev_int (i := 256))) : EvX K (W0 E) [iM form_, iM cell_, oW data_, iM at_] _ _)
    have hi_ := ((ev_var (i := 3) (x := at_) rfl) : EvX K (W0 E) [iM form_, iM cell_, oW data_, iM at_] _ _)
    refine blk_setI (i := 2) (xs := data_) (f := (m_u_law_near_k5 cell_ at_)) L trivial rfl (by exact he_) (by exact hi_) fun data_ => ?_
    show Blk _ _ _ _ _ [iM form_, iM cell_, oW data_, iM at_] ((m_u_law_near_k5 cell_ at_) data_)
    unfold m_u_law_near_k5
    show Blk _ _ _ _ _ [iM form_, iM cell_, oW data_, iM at_] _
    try refine Blk.nx ?_
    refine blk_freeze 2 rfl ?_
    show Blk _ _ _ _ _ [iM form_, iM cell_, iM data_, iM at_] _
    exact (hk1 data_).weak (.same (.same (.same (.same .nil))))
  · intro hk1
    refine blk_nil ?_
    try refine Blk.nx ?_
    refine blk_freeze 2 rfl ?_
    show Blk _ _ _ _ _ [iM form_, iM cell_, iM data_, iM at_] _
    exact (hk1 data_).weak (.same (.same (.same (.same .nil))))
noncomputable def m_law_l1 (script_ : (Ro Int)) (k1 : (Option Int) → Res Bool) : List Int → (Option Int) → Res Bool
  | [], s => k1 s
  | x187 :: r1, number_ =>   (fun (k_ : Int) => ((((((m_u_law_cell script_ k_).bind fun a188 => Res.ok (a188, ())).bind fun p190 => Res.ok (Int.natAbs p190.1 : Int)).bind fun a196 => ((((m_u_law_cell script_ ((3 : Int) + k_)).bind fun a191 => Res.ok (a191, ())).bind fun p193 => Res.ok (Int.natAbs p193.1 : Int)).bind fun a194 => Res.ok (a194, ())).bind fun a197 => Res.ok (a196, a197)).bind fun p198 => m_u_law_lengths p198.1 p198.2.1).bind fun (t199 : Bool) => Res.ok (!t199)).bind fun b => cond b   ((Res.ok false))   ((((m_u_law_cell script_ ((6 : Int) + k_)).bind fun a205 => ((((m_u_law_cell script_ ((9 : Int) + k_)).bind fun a200 => Res.ok (a200, ())).bind fun p202 => Res.ok (Int.natAbs p202.1 : Int)).bind fun a203 => Res.ok (a203, ())).bind fun a206 => Res.ok (a205, a206)).bind fun p207 => m_u_law_number p207.1 p207.2.1).bind fun (number_ : Int) =>   (m_u_law_told (2 : Int) (toD number_) (0 : Int)).bind fun (form_ : D) =>   (((((m_u_law_form number_).bind fun a208 => Res.ok (a208, ())).bind fun a211 => Res.ok (form_, a211)).bind fun p212 => m_u_law_is_list p212.1 p212.2.1).bind fun (t213 : Bool) => Res.ok (!t213)).bind fun b => cond b   ((Res.ok false))   ((((((((Res.ok form_)).bind D.asInts).bind fun (x : (List Int)) => Res.ok (toD x)).bind fun a214 => Res.ok (a214, ((0 : Int), ()))).bind fun a217 => Res.ok ((3 : Int), a217)).bind fun p218 => m_u_law_told p218.1 p218.2.1 p218.2.2.1).bind fun (back_ : D) =>   (((m_u_law_integer back_).bind fun (t219 : Bool) => Res.ok (!t219)).bind fun b220 => cond b220 (Res.ok true) (Res.need ((toD back_).okq = true ∧ (toD number_).okq = true) (Res.ok (!pyEq (toD back_) (toD number_))))).bind fun b => cond b   ((Res.ok false))   ((((((Res.ok form_)).bind D.asInts).bind fun a226 => ((((m_u_law_cell script_ ((12 : Int) + k_)).bind fun a221 => Res.ok (a221, ())).bind fun p223 => Res.ok (Int.natAbs p223.1 : Int)).bind fun a224 => Res.ok (a224, ())).bind fun a227 => Res.ok (a226, a227)).bind fun p228 => m_u_law_near p228.1 p228.2.1).bind fun (near_ : (List Int)) =>   (m_u_law_told (3 : Int) (toD near_) (0 : Int)).bind fun (found_ : D) =>   ((m_u_law_integer found_).bind fun b238 => cond b238 (((((Res.ok found_)).bind D.asInt).bind fun (t229 : Int) => Res.ok (decide (t229 < (0 : Int)))).bind fun b237 => cond b237 (Res.ok true) (((((Res.ok found_)).bind D.asInt).bind fun (t230 : Int) => (Res.need (CShl (1 : Int) (520 : Int)) (Res.ok ((1 : Int) * 2 ^ (520 : Int).toNat))).bind fun (t231 : Int) => Res.ok (decide (t231 ≤ t230))).bind fun b236 => cond b236 (Res.ok true) ((((((Res.ok found_)).bind D.asInt).bind fun a232 => Res.ok (a232, ())).bind fun p234 => m_u_law_form p234.1).bind fun (t235 : (List Int)) => Res.need ((toD t235).okq = true ∧ (toD near_).okq = true) (Res.ok (!pyEq (toD t235) (toD near_)))))) (Res.ok false)).bind fun b => cond b   ((Res.ok false))   (((Res.need ((toD near_).okq = true ∧ (toD form_).okq = true) (Res.ok (pyEq (toD near_) (toD form_)))).bind fun b239 => cond b239 (Res.need ((toD found_).okq = true ∧ (toD number_).okq = true) (Res.ok (!pyEq (toD found_) (toD number_)))) (Res.ok false)).bind fun b => cond b   ((Res.ok false))   (((Res.need ((toD found_).plain = true) (Res.ok (isI "tuple" (toD found_)))).bind fun b242 => cond b242 ((Res.need ((toD found_).okq = true ∧ (toD (T2.mk ("refused" : Str) ("form" : Str))).okq = true) (Res.ok (!pyEq (toD found_) (toD (T2.mk ("refused" : Str) ("form" : Str)))))).bind fun b241 => cond b241 ((idx near_ (0 : Int)).bind fun (t240 : Int) => Res.ok (!decide (t240 = (48 : Int)))) (Res.ok false)) (Res.ok false)).bind fun b => cond b   ((Res.ok false))   (m_law_l1 script_ k1 r1 (some number_)))))))) x187
noncomputable def m_law_k7 : (Option Int) → Res Bool := fun number_ =>   (match number_ with | none => Res.stuck | some number_ => ((m_u_law_told (2 : Int) (toD ((-(1 : Int)) - number_)) (0 : Int)).bind fun (t243 : D) => Res.need ((toD t243).okq = true ∧ (toD (T2.mk ("refused" : Str) ("range" : Str))).okq = true) (Res.ok (pyEq (toD t243) (toD (T2.mk ("refused" : Str) ("range" : Str)))))).bind fun b251 => cond b251 (((((((Res.need (CShl (1 : Int) (520 : Int)) (Res.ok ((1 : Int) * 2 ^ (520 : Int).toNat))).bind fun (t244 : Int) => Res.ok (t244 + number_)).bind fun (x : Int) => Res.ok (toD x)).bind fun a245 => Res.ok (a245, ((0 : Int), ()))).bind fun a248 => Res.ok ((2 : Int), a248)).bind fun p249 => m_u_law_told p249.1 p249.2.1 p249.2.2.1).bind fun (t250 : D) => Res.need ((toD t250).okq = true ∧ (toD (T2.mk ("refused" : Str) ("range" : Str))).okq = true) (Res.ok (pyEq (toD t250) (toD (T2.mk ("refused" : Str) ("range" : Str)))))) (Res.ok false))
noncomputable def m_law (script_ : (Ro Int)) : Res Bool :=
  (Res.need (okRange (3 : Int)) (Res.ok (pyRange 0 (3 : Int)))).bind fun (xs252 : List Int) => m_law_l1 script_ (m_law_k7) xs252 (none : (Option Int))
theorem ok_law {P : Program} {w : World} {K : PySem.W.Frag} {mg : Str → Option Value} {base : Heap} (T : Facts P w K mg) {fd : FuncData} (F : FnP K "law" "law" s_law (He.ga K "law") fd) :
    FnOk P w K mg base (L2.CX P w) 19 (He.ga K "law") fd ["script"] (spM K (fun (p : (Ro Int) × Unit) => m_law p.1)) := by
  obtain ⟨fd_u_law_cell, F_u_law_cell⟩ := T.d_u_law_cell
  have G_u_law_cell := ok_u_law_cell (P := P) (w := w) (base := base) T F_u_law_cell
  have b_u_law_cell : Binds K fd_u_law_cell ["script", "k"] [] := F_u_law_cell.bindsN fun _ _ _ _ _ _ us hl => match us, hl with | [_, _], _ => rfl
  obtain ⟨fd_u_law_form, F_u_law_form⟩ := T.d_u_law_form
  have G_u_law_form := ok_u_law_form (P := P) (w := w) (base := base) T F_u_law_form
  have b_u_law_form : Binds K fd_u_law_form ["number"] [] := F_u_law_form.bindsN fun _ _ _ _ _ _ us hl => match us, hl with | [_], _ => rfl
  obtain ⟨fd_u_law_integer, F_u_law_integer⟩ := T.d_u_law_integer
  have G_u_law_integer := ok_u_law_integer (P := P) (w := w) (base := base) T F_u_law_integer
  have b_u_law_integer : Binds K fd_u_law_integer ["x"] [] := F_u_law_integer.bindsN fun _ _ _ _ _ _ us hl => match us, hl with | [_], _ => rfl
  obtain ⟨fd_u_law_is_list, F_u_law_is_list⟩ := T.d_u_law_is_list
  have G_u_law_is_list := ok_u_law_is_list (P := P) (w := w) (base := base) T F_u_law_is_list
  have b_u_law_is_list : Binds K fd_u_law_is_list ["found", "due"] [] := F_u_law_is_list.bindsN fun _ _ _ _ _ _ us hl => match us, hl with | [_, _], _ => rfl
  obtain ⟨fd_u_law_lengths, F_u_law_lengths⟩ := T.d_u_law_lengths
  have G_u_law_lengths := ok_u_law_lengths (P := P) (w := w) (base := base) T F_u_law_lengths
  have b_u_law_lengths : Binds K fd_u_law_lengths ["cell", "other"] [] := F_u_law_lengths.bindsN fun _ _ _ _ _ _ us hl => match us, hl with | [_, _], _ => rfl
  obtain ⟨fd_u_law_near, F_u_law_near⟩ := T.d_u_law_near
  have G_u_law_near := ok_u_law_near (P := P) (w := w) (base := base) T F_u_law_near
  have b_u_law_near : Binds K fd_u_law_near ["form", "cell"] [] := F_u_law_near.bindsN fun _ _ _ _ _ _ us hl => match us, hl with | [_, _], _ => rfl
  obtain ⟨fd_u_law_number, F_u_law_number⟩ := T.d_u_law_number
  have G_u_law_number := ok_u_law_number (P := P) (w := w) (base := base) T F_u_law_number
  have b_u_law_number : Binds K fd_u_law_number ["cell", "other"] [] := F_u_law_number.bindsN fun _ _ _ _ _ _ us hl => match us, hl with | [_, _], _ => rfl
  obtain ⟨fd_u_law_told, F_u_law_told⟩ := T.d_u_law_told
  have G_u_law_told := ok_u_law_told (P := P) (w := w) (base := base) T F_u_law_told
  have b_u_law_told : Binds K fd_u_law_told ["which", "data", "at"] [] := F_u_law_told.bindsN fun _ _ _ _ _ _ us hl => match us, hl with | [_, _, _], _ => rfl
  refine fn_ok F sc_law (fun y => rfl) (fun cdv A outer s H E hr => ?_)
  refine ⟨_, (pss_cons (ps_for (passes_of rfl) rfl (pi_range1 rfl T.n_range (pa_cons pe_int pa_nil)) (pg_name (i := 1) sc_law.nd rfl (Or.inl rfl)) (pss_cons (ps_if (pt_not (pt_val (pe_callS G_u_law_lengths (hr.mono (by decide)) rfl T.g_u_law_lengths F_u_law_lengths.kp b_u_law_lengths (fun σ => passAt (takes_of rfl rfl rfl rfl) σ) (pa_cons (pe_callB call_abs (by rfl) T.n_abs (by decide +kernel) (pa_cons (pe_callS G_u_law_cell (hr.mono (by decide)) rfl T.g_u_law_cell F_u_law_cell.kp b_u_law_cell (fun σ => passAt (takes_of rfl rfl rfl rfl) σ) (pa_cons (pv 0) (pa_cons (pv 1) pa_nil))) pa_nil)) (pa_cons (pe_callB call_abs (by rfl) T.n_abs (by decide +kernel) (pa_cons (pe_callS G_u_law_cell (hr.mono (by decide)) rfl T.g_u_law_cell F_u_law_cell.kp b_u_law_cell (fun σ => passAt (takes_of rfl rfl rfl rfl) σ) (pa_cons (pv 0) (pa_cons (pe_op op_add pe_int (pv 1)) pa_nil))) pa_nil)) pa_nil))))) (pss_one (ps_ret pe_bl)) pss_nil) (pss_cons (ps_set (i := 2) sc_law.nd rfl (Or.inl rfl) (pe_callS G_u_law_number (hr.mono (by decide)) rfl T.g_u_law_number F_u_law_number.kp b_u_law_number (fun σ => passAt (takes_of rfl rfl rfl rfl) σ) (pa_cons (pe_callS G_u_law_cell (hr.mono (by decide)) rfl T.g_u_law_cell F_u_law_cell.kp b_u_law_cell (fun σ => passAt (takes_of rfl rfl rfl rfl) σ) (pa_cons (pv 0) (pa_cons (pe_op op_add pe_int (pv 1)) pa_nil))) (pa_cons (pe_callB call_abs (by rfl) T.n_abs (by decide +kernel) (pa_cons (pe_callS G_u_law_cell (hr.mono (by decide)) rfl T.g_u_law_cell F_u_law_cell.kp b_u_law_cell (fun σ => passAt (takes_of rfl rfl rfl rfl) σ) (pa_cons (pv 0) (pa_cons (pe_op op_add pe_int (pv 1)) pa_nil))) pa_nil)) pa_nil)))) (pss_cons (ps_set (i := 3) sc_law.nd rfl (Or.inl rfl) (pe_callS G_u_law_told (hr.mono (by decide)) rfl T.g_u_law_told F_u_law_told.kp b_u_law_told (fun σ => passAt (takes_of rfl rfl rfl rfl) σ) (pa_cons pe_int (pa_cons (pv 2) (pa_cons pe_int pa_nil))))) (pss_cons (ps_if (pt_not (pt_val (pe_callS G_u_law_is_list (hr.mono (by decide)) rfl T.g_u_law_is_list F_u_law_is_list.kp b_u_law_is_list (fun σ => passAt (takes_of rfl rfl rfl rfl) σ) (pa_cons (pv 3) (pa_cons (pe_callS G_u_law_form (hr.mono (by decide)) rfl T.g_u_law_form F_u_law_form.kp b_u_law_form (fun σ => passAt (takes_of rfl rfl rfl rfl) σ) (pa_cons (pv 2) pa_nil)) pa_nil))))) (pss_one (ps_ret pe_bl)) pss_nil) (pss_cons (ps_set (i := 4) sc_law.nd rfl (Or.inl rfl) (pe_callS G_u_law_told (hr.mono (by decide)) rfl T.g_u_law_told F_u_law_told.kp b_u_law_told (fun σ => passAt (takes_of rfl rfl rfl rfl) σ) (pa_cons pe_int (pa_cons (pe_callTy (T := "list") (cr_listof rfl) (by rfl) T.n_list (by decide +kernel) (pa_cons (pv 3) pa_nil)) (pa_cons pe_int pa_nil))))) (pss_cons (ps_if (PW.pt (pw_or (pt_not (pt_val (pe_callS G_u_law_integer (hr.mono (by decide)) rfl T.g_u_law_integer F_u_law_integer.kp b_u_law_integer (fun σ => passAt (takes_of rfl rfl rfl rfl) σ) (pa_cons (pv 4) pa_nil)))) (pw_or1 (pt_cmpR (op_neD (Room.units hr)) (pv 4) (pv 2) (nomark _))))) (pss_one (ps_ret pe_bl)) pss_nil) (pss_cons (ps_set (i := 5) sc_law.nd rfl (Or.inl rfl) (pe_callS G_u_law_near (hr.mono (by decide)) rfl T.g_u_law_near F_u_law_near.kp b_u_law_near (fun σ => passAt (takes_of rfl rfl rfl rfl) σ) (pa_cons (pv 3) (pa_cons (pe_callB call_abs (by rfl) T.n_abs (by decide +kernel) (pa_cons (pe_callS G_u_law_cell (hr.mono (by decide)) rfl T.g_u_law_cell F_u_law_cell.kp b_u_law_cell (fun σ => passAt (takes_of rfl rfl rfl rfl) σ) (pa_cons (pv 0) (pa_cons (pe_op op_add pe_int (pv 1)) pa_nil))) pa_nil)) pa_nil)))) (pss_cons (ps_set (i := 6) sc_law.nd rfl (Or.inl rfl) (pe_callS G_u_law_told (hr.mono (by decide)) rfl T.g_u_law_told F_u_law_told.kp b_u_law_told (fun σ => passAt (takes_of rfl rfl rfl rfl) σ) (pa_cons pe_int (pa_cons (pe_callTy (T := "list") (cr_listof rfl) (by rfl) T.n_list (by decide +kernel) (pa_cons (pv 5) pa_nil)) (pa_cons pe_int pa_nil))))) (pss_cons (ps_if (PW.pt (pw_and (pt_val (pe_callS G_u_law_integer (hr.mono (by decide)) rfl T.g_u_law_integer F_u_law_integer.kp b_u_law_integer (fun σ => passAt (takes_of rfl rfl rfl rfl) σ) (pa_cons (pv 6) pa_nil))) (pw_and1 (PW.pt (pw_or (pt_cmpR op_lt (pv 6) pe_int (nomark _)) (pw_or (pt_cmpR op_ge (pv 6) (pe_op op_shlW pe_int pe_int) (nomark _)) (pw_or1 (pt_cmpR (op_neD (Room.units hr)) (pe_callS G_u_law_form (hr.mono (by decide)) rfl T.g_u_law_form F_u_law_form.kp b_u_law_form (fun σ => passAt (takes_of rfl rfl rfl rfl) σ) (pa_cons (pv 6) pa_nil)) (pv 5) (nomark _))))))))) (pss_one (ps_ret pe_bl)) pss_nil) (pss_cons (ps_if (PW.pt (pw_and (pt_cmpR (op_eqD (Room.units hr)) (pv 5) (pv 3) (nomark _)) (pw_and1 (pt_cmpR (op_neD (Room.units hr)) (pv 6) (pv 2) (nomark _))))) (pss_one (ps_ret pe_bl)) pss_nil) (pss_one (ps_if (PW.pt (pw_and (pt_val (pe_callB call_isi (by rfl) T.n_isinstance (by decide +kernel) (pa_cons (pv 6) (pa_cons (pe_bltn (v := .ty "tuple") (by rfl) T.n_tuple (by decide +kernel) rfl) pa_nil)))) (pw_and (pt_cmpR (op_neD (Room.units hr)) (pv 6) (pe_tup (pa_cons pe_str (pa_cons pe_str pa_nil))) (nomark _)) (pw_and1 (pt_cmpR op_ne (pe_ix (cr_ixL rfl) (pv 5) pe_int (fun _ _ => rfl)) pe_int (nomark _)))))) (pss_one (ps_ret pe_bl)) pss_nil))))))))))))) (pss_one (ps_ret (pe_and (pe_cmpR (op_eqD (Room.units hr)) (pe_callS G_u_law_told (hr.mono (by decide)) rfl T.g_u_law_told F_u_law_told.kp b_u_law_told (fun σ => passAt (takes_of rfl rfl rfl rfl) σ) (pa_cons pe_int (pa_cons (pe_op op_sub (pe_un un_neg pe_int) (pv 2)) (pa_cons pe_int pa_nil)))) (pe_tup (pa_cons pe_str (pa_cons pe_str pa_nil))) (nomark _)) (pe_one (pe_cmpR (op_eqD (Room.units hr)) (pe_callS G_u_law_told (hr.mono (by decide)) rfl T.g_u_law_told F_u_law_told.kp b_u_law_told (fun σ => passAt (takes_of rfl rfl rfl rfl) σ) (pa_cons pe_int (pa_cons (pe_op op_add (pe_op op_shlW pe_int pe_int) (pv 2)) (pa_cons pe_int pa_nil)))) (pe_tup (pa_cons pe_str (pa_cons pe_str pa_nil))) (nomark _))))))), ?_⟩
  rintro ⟨script_, ⟨⟩⟩ F0 H0 Q KP L
  show Blk K F0 H0 KP _ [iM script_, none, none, none, none, none, none] (m_law script_)
  unfold m_law
  have hi_ := ((ei_range1 (ev_int (i := 3))) : EvI K (W0 E) [iM script_, none, none, none, none, none, none] _ _)
  refine blk_seq (blk_for (S := (Option Int)) (m_law_l1 script_ (m_law_k7)) (m_law_k7) (fun number_ => [iM script_, none, lateM number_, none, none, none, none]) (none : (Option Int)) L trivial (by exact hi_) (fun _ => gx_name) (.same (.same (.same (.same (.same (.same (.same .nil))))))) (fun _ => rfl) ?_ ?_)
  · intro F1 L1 hB1 x187 r1 s_ N_ hN1
    revert s_; intro number_
    show Blk _ _ _ _ _ [iM script_, iM x187, lateM number_, none, none, none, none] (m_law_l1 script_ (m_law_k7) (x187 :: r1) number_)
    rw [m_law_l1]
    show Blk _ _ _ _ _ _ ((fun (k_ : Int) => _) x187)
    generalize x187 = k_
    show Blk _ _ _ _ _ [iM script_, iM k_, lateM number_, none, none, none, none] _
    have ht_ := ((et_not (et_B (ev_call (f := (fun (p : Int × Int × Unit) => m_u_law_lengths p.1 p.2.1)) (ea_cons (ev_cb cx_abs (fun _ _ h => nomatch h) (ea_cons (ev_call (f := (fun (p : (Ro Int) × Int × Unit) => m_u_law_cell p.1 p.2.1)) (ea_cons (ev_var (i := 0) (x := script_) rfl) (ea_cons (ev_var (i := 1) (x := k_) rfl) ea_nil))) ea_nil)) (ea_cons (ev_cb cx_abs (fun _ _ h => nomatch h) (ea_cons (ev_call (f := (fun (p : (Ro Int) × Int × Unit) => m_u_law_cell p.1 p.2.1)) (ea_cons (ev_var (i := 0) (x := script_) rfl) (ea_cons (ev_op (opx_I0 (g := fun i j => i + j)) mild_ok (ev_int (i := 3)) (ev_var (i := 1) (x := k_) rfl)) ea_nil))) ea_nil)) ea_nil))))) : EvT K (W0 E) [iM script_, iM k_, lateM number_, none, none, none, none] _ _)
    refine blk_seq (blk_if2 L1 trivial (by exact ht_) ?_ ?_)
    · have hr_ := ((ev_bl (b := false)) : EvX K (W0 E) [iM script_, iM k_, lateM number_, none, none, none, none] _ _)
      exact blk_ret L1 trivial (by exact hr_)
    · refine blk_nil ?_
      try refine Blk.nx ?_
      have hs_ := ((ev_call (f := (fun (p : Int × Int × Unit) => m_u_law_number p.1 p.2.1)) (ea_cons (ev_call (f := (fun (p : (Ro Int) × Int × Unit) => m_u_law_cell p.1 p.2.1)) (ea_cons (ev_var (i := 0) (x := script_) rfl) (ea_cons (ev_op (opx_I0 (g := fun i j => i + j)) mild_ok (ev_int (i := 6)) (ev_var (i := 1) (x := k_) rfl)) ea_nil))) (ea_cons (ev_cb cx_abs (fun _ _ h => nomatch h) (ea_cons (ev_call (f := (fun (p : (Ro Int) × Int × Unit) => m_u_law_cell p.1 p.2.1)) (ea_cons (ev_var (i := 0) (x := script_) rfl) (ea_cons (ev_op (opx_I0 (g := fun i j => i + j)) mild_ok (ev_int (i := 9)) (ev_var (i := 1) (x := k_) rfl)) ea_nil))) ea_nil)) ea_nil))) : EvX K (W0 E) [iM script_, iM k_, lateM number_, none, none, none, none] _ _)
      refine blk_seq (blk_set (i := 2) L1 trivial (by exact hs_) fun number_ => ?_)
      show Blk _ _ _ _ _ [iM script_, iM k_, iM number_, none, none, none, none] _
      try refine Blk.nx ?_
      have hs_ := ((ev_call (f := (fun (p : Int × D × Int × Unit) => m_u_law_told p.1 p.2.1 p.2.2.1)) (ea_cons (ev_int (i := 2)) (ea_cons (ev_as (ev_var (i := 2) (x := number_) rfl) toD (fun _ => rfl) rfl) (ea_cons (ev_int (i := 0)) ea_nil)))) : EvX K (W0 E) [iM script_, iM k_, iM number_, none, none, none, none] _ _)
      refine blk_seq (blk_set (i := 3) L1 trivial (by exact hs_) fun form_ => ?_)
      show Blk _ _ _ _ _ [iM script_, iM k_, iM number_, iM form_, none, none, none] _
      try refine Blk.nx ?_
      have ht_ := ((et_not (et_B (ev_call (f := (fun (p : D × (List Int) × Unit) => m_u_law_is_list p.1 p.2.1)) (ea_cons (ev_var (i := 3) (x := form_) rfl) (ea_cons (ev_call (f := (fun (p : Int × Unit) => m_u_law_form p.1)) (ea_cons (ev_var (i := 2) (x := number_) rfl) ea_nil)) ea_nil))))) : EvT K (W0 E) [iM script_, iM k_, iM number_, iM form_, none, none, none] _ _)
      refine blk_seq (blk_if2 L1 trivial (by exact ht_) ?_ ?_)
      · have hr_ := ((ev_bl (b := false)) : EvX K (W0 E) [iM script_, iM k_, iM number_, iM form_, none, none, none] _ _)
        exact blk_ret L1 trivial (by exact hr_)
      · refine blk_nil ?_
        try refine Blk.nx ?_
        have hs_ := ((ev_call (f := (fun (p : Int × D × Int × Unit) => m_u_law_told p.1 p.2.1 p.2.2.1)) (ea_cons (ev_int (i := 3)) (ea_cons (ev_as (ev_ofN (en_list (ev_cast (f := D.asInts) asInts_ok asInts_x (ev_var (i := 3) (x := form_) rfl)))) toD (fun _ => rfl) rfl) (ea_cons (ev_int (i := 0)) ea_nil)))) : EvX K (W0 E) [iM script_, iM k_, iM number_, iM form_, none, none, none] _ _)
        refine blk_seq (blk_set (i := 4) L1 trivial (by exact hs_) fun back_ => ?_)
        show Blk _ _ _ _ _ [iM script_, iM k_, iM number_, iM form_, iM back_, none, none] _
        try refine Blk.nx ?_
        have ht_ := ((et_or (et_not (et_B (ev_call (f := (fun (p : D × Unit) => m_u_law_integer p.1)) (ea_cons (ev_var (i := 4) (x := back_) rfl) ea_nil)))) (et_test (ev_op opx_neD mild_need (ev_var (i := 4) (x := back_) rfl) (ev_var (i := 2) (x := number_) rfl)))) : EvT K (W0 E) [iM script_, iM k_, iM number_, iM form_, iM back_, none, none] _ _)
        refine blk_seq (blk_if2 L1 trivial (by exact ht_) ?_ ?_)
        · have hr_ := ((ev_bl (b := false)) : EvX K (W0 E) [iM script_, iM k_, iM number_, iM form_, iM back_, none, none] _ _)
          exact blk_ret L1 trivial (by exact hr_)
        · refine blk_nil ?_
          try refine Blk.nx ?_
          have hs_ := ((ev_call (f := (fun (p : (List Int) × Int × Unit) => m_u_law_near p.1 p.2.1)) (ea_cons (ev_cast (f := D.asInts) asInts_ok asInts_x (ev_var (i := 3) (x := form_) rfl)) (ea_cons (ev_cb cx_abs (fun _ _ h => nomatch h) (ea_cons (ev_call (f := (fun (p : (Ro Int) × Int × Unit) => m_u_law_cell p.1 p.2.1)) (ea_cons (ev_var (i := 0) (x := script_) rfl) (ea_cons (ev_op (opx_I0 (g := fun i j => i + j)) mild_ok (ev_int (i := 12)) (ev_var (i := 1) (x := k_) rfl)) ea_nil))) ea_nil)) ea_nil))) : EvX K (W0 E) [iM script_, iM k_, iM number_, iM form_, iM back_, none, none] _ _)
          refine blk_seq (blk_set (i := 5) L1 trivial (by exact hs_) fun near_ => ?_)
          show Blk _ _ _ _ _ [iM script_, iM k_, iM number_, iM form_, iM back_, iM near_, none] _
          try refine Blk.nx ?_
          have hs_ := ((ev_call (f := (fun (p : Int × D × Int × Unit) => m_u_law_told p.1 p.2.1 p.2.2.1)) (ea_cons (ev_int (i := 3)) (ea_cons (ev_as (ev_ofN (en_list (ev_var (i := 5) (x := near_) rfl))) toD (fun _ => rfl) rfl) (ea_cons (ev_int (i := 0)) ea_nil)))) : EvX K (W0 E) [iM script_, iM k_, iM number_, iM form_, iM back_, iM near_, none] _ _)
          refine blk_seq (blk_set (i := 6) L1 trivial (by exact hs_) fun found_ => ?_)
          show Blk _ _ _ _ _ [iM script_, iM k_, iM number_, iM form_, iM back_, iM near_, iM found_] _
          try refine Blk.nx ?_
          have ht_ := ((et_and (et_B (ev_call (f := (fun (p : D × Unit) => m_u_law_integer p.1)) (ea_cons (ev_var (i := 6) (x := found_) rfl) ea_nil))) (et_or (et_test (ev_op (opx_B0 (g := fun i j => decide (i < j))) mild_ok (ev_cast (f := D.asInt) asInt_ok asInt_x (ev_var (i := 6) (x := found_) rfl)) (ev_int (i := 0)))) (et_or (et_test (ev_op (opx_B0 (g := fun i j => decide (j ≤ i))) mild_ok (ev_cast (f := D.asInt) asInt_ok asInt_x (ev_var (i := 6) (x := found_) rfl)) (ev_op (opx_I (C := CShl) (g := fun i j => i * 2 ^ j.toNat)) mild_need (ev_int (i := 1)) (ev_int (i := 520))))) (et_test (ev_op opx_neD mild_need (ev_call (f := (fun (p : Int × Unit) => m_u_law_form p.1)) (ea_cons (ev_cast (f := D.asInt) asInt_ok asInt_x (ev_var (i := 6) (x := found_) rfl)) ea_nil)) (ev_var (i := 5) (x := near_) rfl)))))) : EvT K (W0 E) [iM script_, iM k_, iM number_, iM form_, iM back_, iM near_, iM found_] _ _)
          refine blk_seq (blk_if2 L1 trivial (by exact ht_) ?_ ?_)
          · have hr_ := ((ev_bl (b := false)) : EvX K (W0 E) [iM script_, iM k_, iM number_, iM form_, iM back_, iM near_, iM found_] _ _)
            exact blk_ret L1 trivial (by exact hr_)
          · refine blk_nil ?_
            try refine Blk.nx ?_
            have ht_ := ((et_and (et_test (ev_op opx_eqD mild_need (ev_var (i := 5) (x := near_) rfl) (ev_var (i := 3) (x := form_) rfl))) (et_test (ev_op opx_neD mild_need (ev_var (i := 6) (x := found_) rfl) (ev_var (i := 2) (x := number_) rfl)))) : EvT K (W0 E) [iM script_, iM k_, iM number_, iM form_, iM back_, iM near_, iM found_] _ _)
            refine blk_seq (blk_if2 L1 trivial (by exact ht_) ?_ ?_)
            · have hr_ := ((ev_bl (b := false)) : EvX K (W0 E) [iM script_, iM k_, iM number_, iM form_, iM back_, iM near_, iM found_] _ _)
              exact blk_ret L1 trivial (by exact hr_)
            · refine blk_nil ?_
              try refine Blk.nx ?_
              have ht_ := ((et_and (et_B (ev_isi isi_tuple (ev_var (i := 6) (x := found_) rfl))) (et_and (et_test (ev_op opx_neD mild_need (ev_var (i := 6) (x := found_) rfl) (ev_tup (f := (fun (y : Str × Str × Unit) => T2.mk y.1 y.2.1)) (ea_cons (ev_str (x := "refused")) (ea_cons (ev_str (x := "form")) ea_nil)) (fun _ => rfl) (fun _ => by show 2 ≤ 100000; decide)))) (et_test (ev_op opx_neI mild_ok (ev_op opx_ixL (fun x y => idx_mild x y) (ev_var (i := 5) (x := near_) rfl) (ev_int (i := 0))) (ev_int (i := 48)))))) : EvT K (W0 E) [iM script_, iM k_, iM number_, iM form_, iM back_, iM near_, iM found_] _ _)
              refine blk_if2 L1 trivial (by exact ht_) ?_ ?_
              · have hr_ := ((ev_bl (b := false)) : EvX K (W0 E) [iM script_, iM k_, iM number_, iM form_, iM back_, iM near_, iM found_] _ _)
                exact blk_ret L1 trivial (by exact hr_)
              · refine blk_nil ?_
                try refine Blk.nx ?_
                exact (hN1 (some number_)).weak (.same (.drop (.same (.drop (.drop (.drop (.drop .nil)))))))
  · intro number_
    show Blk _ _ _ _ _ [iM script_, none, lateM number_, none, none, none, none] ((m_law_k7) number_)
    unfold m_law_k7
    cases number_ with
    | none => exact blk_stk L
    | some number_ =>
      show Blk _ _ _ _ _ [iM script_, none, iM number_, none, none, none, none] _
      try refine Blk.nx ?_
      have hr_ := ((ev_andV (ev_op opx_eqD mild_need (ev_call (f := (fun (p : Int × D × Int × Unit) => m_u_law_told p.1 p.2.1 p.2.2.1)) (ea_cons (ev_int (i := 2)) (ea_cons (ev_as (ev_op (opx_I0 (g := fun i j => i - j)) mild_ok (ev_un (g := fun i => -i) (ev_int (i := 1))) (ev_var (i := 2) (x := number_) rfl)) toD (fun _ => rfl) rfl) (ea_cons (ev_int (i := 0)) ea_nil)))) (ev_tup (f := (fun (y : Str × Str × Unit) => T2.mk y.1 y.2.1)) (ea_cons (ev_str (x := "refused")) (ea_cons (ev_str (x := "range")) ea_nil)) (fun _ => rfl) (fun _ => by show 2 ≤ 100000; decide))) (ev_op opx_eqD mild_need (ev_call (f := (fun (p : Int × D × Int × Unit) => m_u_law_told p.1 p.2.1 p.2.2.1)) (ea_cons (ev_int (i := 2)) (ea_cons (ev_as (ev_op (opx_I0 (g := fun i j => i + j)) mild_ok (ev_op (opx_I (C := CShl) (g := fun i j => i * 2 ^ j.toNat)) mild_need (ev_int (i := 1)) (ev_int (i := 520))) (ev_var (i := 2) (x := number_) rfl)) toD (fun _ => rfl) rfl) (ea_cons (ev_int (i := 0)) ea_nil)))) (ev_tup (f := (fun (y : Str × Str × Unit) => T2.mk y.1 y.2.1)) (ea_cons (ev_str (x := "refused")) (ea_cons (ev_str (x := "range")) ea_nil)) (fun _ => rfl) (fun _ => by show 2 ≤ 100000; decide)))) : EvX K (W0 E) [iM script_, none, iM number_, none, none, none, none] _ _)
      exact blk_ret L trivial (by exact hr_)
theorem facts_of {K : PySem.W.Frag} {h : Heap} {w : World} {mg : Str → Option Value} (X : K.In h) (G : h.Ns mainGlobals mg) (c : SaysY fas dfs tbs sus exB w K) : Facts Rw.prog w K mg := by
  have cd : He.SaysD fas dfs K := c.t.d
  exact {
    d_is_whole := cd.def_ 0 (d := ⟨("is_whole", none), "is_whole", "is_whole", defArgs s_is_whole, defBody s_is_whole, defScope s_is_whole, [], []⟩) rfl
    g_is_whole := He.glo_ok X G (cd.fact 0 rfl)
    d_to_little := cd.def_ 1 (d := ⟨("to_little", none), "to_little", "to_little", defArgs s_to_little, defBody s_to_little, defScope s_to_little, [], []⟩) rfl
    g_to_little := He.glo_ok X G (cd.fact 1 rfl)
    d_to_big := cd.def_ 2 (d := ⟨("to_big", none), "to_big", "to_big", defArgs s_to_big, defBody s_to_big, defScope s_to_big, [], []⟩) rfl
    g_to_big := He.glo_ok X G (cd.fact 2 rfl)
    d_from_big := cd.def_ 3 (d := ⟨("from_big", none), "from_big", "from_big", defArgs s_from_big, defBody s_from_big, defScope s_from_big, [], []⟩) rfl
    g_from_big := He.glo_ok X G (cd.fact 3 rfl)
    d_is_bytes := cd.def_ 4 (d := ⟨("is_bytes", none), "is_bytes", "is_bytes", defArgs s_is_bytes, defBody s_is_bytes, defScope s_is_bytes, [], []⟩) rfl
    g_is_bytes := He.glo_ok X G (cd.fact 4 rfl)
    d_write_length := cd.def_ 5 (d := ⟨("write_length", none), "write_length", "write_length", defArgs s_write_length, defBody s_write_length, defScope s_write_length, [], []⟩) rfl
    g_write_length := He.glo_ok X G (cd.fact 5 rfl)
    d_read_length := cd.def_ 6 (d := ⟨("read_length", none), "read_length", "read_length", defArgs s_read_length, defBody s_read_length, defScope s_read_length, [], []⟩) rfl
    g_read_length := He.glo_ok X G (cd.fact 6 rfl)
    d_write_number := cd.def_ 7 (d := ⟨("write_number", none), "write_number", "write_number", defArgs s_write_number, defBody s_write_number, defScope s_write_number, [], []⟩) rfl
    g_write_number := He.glo_ok X G (cd.fact 7 rfl)
    d_u_number_content := cd.def_ 8 (d := ⟨("_number_content", none), "_number_content", "_number_content", defArgs s_u_number_content, defBody s_u_number_content, defScope s_u_number_content, [], []⟩) rfl
    g_u_number_content := He.glo_ok X G (cd.fact 8 rfl)
    d_u_part := cd.def_ 9 (d := ⟨("_part", none), "_part", "_part", defArgs s_u_part, defBody s_u_part, defScope s_u_part, [], []⟩) rfl
    g_u_part := He.glo_ok X G (cd.fact 9 rfl)
    d_u_only_part := cd.def_ 10 (d := ⟨("_only_part", none), "_only_part", "_only_part", defArgs s_u_only_part, defBody s_u_only_part, defScope s_u_only_part, [], []⟩) rfl
    g_u_only_part := He.glo_ok X G (cd.fact 10 rfl)
    d_u_split_parts := cd.def_ 11 (d := ⟨("_split_parts", none), "_split_parts", "_split_parts", defArgs s_u_split_parts, defBody s_u_split_parts, defScope s_u_split_parts, [], []⟩) rfl
    g_u_split_parts := He.glo_ok X G (cd.fact 11 rfl)
    d_u_number := cd.def_ 12 (d := ⟨("_number", none), "_number", "_number", defArgs s_u_number, defBody s_u_number, defScope s_u_number, [], []⟩) rfl
    g_u_number := He.glo_ok X G (cd.fact 12 rfl)
    d_u_part_count := cd.def_ 13 (d := ⟨("_part_count", none), "_part_count", "_part_count", defArgs s_u_part_count, defBody s_u_part_count, defScope s_u_part_count, [], []⟩) rfl
    g_u_part_count := He.glo_ok X G (cd.fact 13 rfl)
    d_read_tree := cd.def_ 14 (d := ⟨("read_tree", none), "read_tree", "read_tree", defArgs s_read_tree, defBody s_read_tree, defScope s_read_tree, [], []⟩) rfl
    g_read_tree := He.glo_ok X G (cd.fact 14 rfl)
    d_u_tree_value := cd.def_ 15 (d := ⟨("_tree_value", none), "_tree_value", "_tree_value", defArgs s_u_tree_value, defBody s_u_tree_value, defScope s_u_tree_value, [], []⟩) rfl
    g_u_tree_value := He.glo_ok X G (cd.fact 15 rfl)
    d_u_law_cell := cd.def_ 16 (d := ⟨("_law_cell", none), "_law_cell", "_law_cell", defArgs s_u_law_cell, defBody s_u_law_cell, defScope s_u_law_cell, [], []⟩) rfl
    g_u_law_cell := He.glo_ok X G (cd.fact 16 rfl)
    d_u_law_twice := cd.def_ 17 (d := ⟨("_law_twice", none), "_law_twice", "_law_twice", defArgs s_u_law_twice, defBody s_u_law_twice, defScope s_u_law_twice, [], []⟩) rfl
    g_u_law_twice := He.glo_ok X G (cd.fact 17 rfl)
    d_u_law_bytes := cd.def_ 18 (d := ⟨("_law_bytes", none), "_law_bytes", "_law_bytes", defArgs s_u_law_bytes, defBody s_u_law_bytes, defScope s_u_law_bytes, [], []⟩) rfl
    g_u_law_bytes := He.glo_ok X G (cd.fact 18 rfl)
    d_u_law_integer := cd.def_ 19 (d := ⟨("_law_integer", none), "_law_integer", "_law_integer", defArgs s_u_law_integer, defBody s_u_law_integer, defScope s_u_law_integer, [], []⟩) rfl
    g_u_law_integer := He.glo_ok X G (cd.fact 19 rfl)
    d_u_law_is_list := cd.def_ 20 (d := ⟨("_law_is_list", none), "_law_is_list", "_law_is_list", defArgs s_u_law_is_list, defBody s_u_law_is_list, defScope s_u_law_is_list, [], []⟩) rfl
    g_u_law_is_list := He.glo_ok X G (cd.fact 20 rfl)
    d_u_law_length := cd.def_ 21 (d := ⟨("_law_length", none), "_law_length", "_law_length", defArgs s_u_law_length, defBody s_u_law_length, defScope s_u_law_length, [], []⟩) rfl
    g_u_law_length := He.glo_ok X G (cd.fact 21 rfl)
    d_u_law_form := cd.def_ 22 (d := ⟨("_law_form", none), "_law_form", "_law_form", defArgs s_u_law_form, defBody s_u_law_form, defScope s_u_law_form, [], []⟩) rfl
    g_u_law_form := He.glo_ok X G (cd.fact 22 rfl)
    d_u_law_call := cd.def_ 23 (d := ⟨("_law_call", none), "_law_call", "_law_call", defArgs s_u_law_call, defBody s_u_law_call, defScope s_u_law_call, [], []⟩) rfl
    g_u_law_call := He.glo_ok X G (cd.fact 23 rfl)
    d_u_law_told := cd.def_ 24 (d := ⟨("_law_told", none), "_law_told", "_law_told", defArgs s_u_law_told, defBody s_u_law_told, defScope s_u_law_told, [], []⟩) rfl
    g_u_law_told := He.glo_ok X G (cd.fact 24 rfl)
    d_u_law_size := cd.def_ 25 (d := ⟨("_law_size", none), "_law_size", "_law_size", defArgs s_u_law_size, defBody s_u_law_size, defScope s_u_law_size, [], []⟩) rfl
    g_u_law_size := He.glo_ok X G (cd.fact 25 rfl)
    d_u_law_due_length := cd.def_ 26 (d := ⟨("_law_due_length", none), "_law_due_length", "_law_due_length", defArgs s_u_law_due_length, defBody s_u_law_due_length, defScope s_u_law_due_length, [], []⟩) rfl
    g_u_law_due_length := He.glo_ok X G (cd.fact 26 rfl)
    d_u_law_lengths := cd.def_ 27 (d := ⟨("_law_lengths", none), "_law_lengths", "_law_lengths", defArgs s_u_law_lengths, defBody s_u_law_lengths, defScope s_u_law_lengths, [], []⟩) rfl
    g_u_law_lengths := He.glo_ok X G (cd.fact 27 rfl)
    d_u_law_number := cd.def_ 28 (d := ⟨("_law_number", none), "_law_number", "_law_number", defArgs s_u_law_number, defBody s_u_law_number, defScope s_u_law_number, [], []⟩) rfl
    g_u_law_number := He.glo_ok X G (cd.fact 28 rfl)
    d_u_law_near := cd.def_ 29 (d := ⟨("_law_near", none), "_law_near", "_law_near", defArgs s_u_law_near, defBody s_u_law_near, defScope s_u_law_near, [], []⟩) rfl
    g_u_law_near := He.glo_ok X G (cd.fact 29 rfl)
    d_law := cd.def_ 30 (d := ⟨("law", none), "law", "law", defArgs s_law, defBody s_law, defScope s_law, [], []⟩) rfl
    g_law := He.glo_ok X G (cd.fact 30 rfl)
    g_CurveError := He.glo_ok X G (cd.fact 31 rfl)
    g_OutOfRange := He.glo_ok X G (cd.fact 32 rfl)
    g_Malformed := He.glo_ok X G (cd.fact 33 rfl)
    x_Malformed := (He.exc_ok (x := "Malformed") (cd.fact 34 rfl)).1
    k_Malformed := (He.exc_ok (x := "Malformed") (cd.fact 34 rfl)).2.1
    b_Malformed := (He.exc_ok (x := "Malformed") (cd.fact 34 rfl)).2.2.1
    t_Malformed := (He.exc_ok (x := "Malformed") (cd.fact 34 rfl)).2.2.2
    x_OutOfRange := (He.exc_ok (x := "OutOfRange") (cd.fact 35 rfl)).1
    k_OutOfRange := (He.exc_ok (x := "OutOfRange") (cd.fact 35 rfl)).2.1
    b_OutOfRange := (He.exc_ok (x := "OutOfRange") (cd.fact 35 rfl)).2.2.1
    t_OutOfRange := (He.exc_ok (x := "OutOfRange") (cd.fact 35 rfl)).2.2.2
    n_abs := He.free_ok X G (cd.fact 36 rfl)
    n_all := He.free_ok X G (cd.fact 37 rfl)
    n_bool := He.free_ok X G (cd.fact 38 rfl)
    n_int := He.free_ok X G (cd.fact 39 rfl)
    n_isinstance := He.free_ok X G (cd.fact 40 rfl)
    n_len := He.free_ok X G (cd.fact 41 rfl)
    n_list := He.free_ok X G (cd.fact 42 rfl)
    n_max := He.free_ok X G (cd.fact 43 rfl)
    n_min := He.free_ok X G (cd.fact 44 rfl)
    n_range := He.free_ok X G (cd.fact 45 rfl)
    n_sum := He.free_ok X G (cd.fact 46 rfl)
    n_tuple := He.free_ok X G (cd.fact 47 rfl)
    n_zip := He.free_ok X G (cd.fact 48 rfl)
    c_LONGEST_CONTENT := He.int_ok X G (cd.fact 49 rfl)
    c_LONGEST_NUMBER := He.int_ok X G (cd.fact 50 rfl)
    c_MOST_BITS := He.int_ok X G (cd.fact 51 rfl)
    c_MOST_LEVELS := He.int_ok X G (cd.fact 52 rfl)
    c_MOST_PARTS := He.int_ok X G (cd.fact 53 rfl)
    c_NUMBER_TAG := He.int_ok X G (cd.fact 54 rfl)
    c_SEQUENCE_TAG := He.int_ok X G (cd.fact 55 rfl)
    cls := cls_of (He.ba (c.more)).1 }
end Mi
set_option maxHeartbeats 1000000
namespace Mi
open PySem PySem.Spec L2
/-! ### what follows, in plain mathematics -/
theorem need_bind {α β : Type} {p : Prop} (m : Res α) (f : α → Res β) : (Res.need p m).bind f = Res.need p (m.bind f) := by
  by_cases h : p
  · rw [Res.need_pos h, Res.need_pos h]
  · rw [Res.need_neg h, Res.need_neg h]; rfl
theorem cond_dec {α : Type} {p : Prop} [Decidable p] (a b : α) : cond (decide p) a b = if p then a else b := by
  by_cases h : p <;> simp [h]
theorem ibits_le {i : Int} {n : Nat} (h : Builtin.Int.intBits i ≤ n) : i.natAbs < 2 ^ n := by
  unfold Builtin.Int.intBits at h
  split at h
  · rename_i h0
    have : i = 0 := by simpa using h0
    subst this
    exact Nat.two_pow_pos n
  · rename_i h0
    have hne : i.natAbs ≠ 0 := by
      intro z
      apply h0
      have : i = 0 := Int.natAbs_eq_zero.mp z
      simp [this]
    have h1 : i.natAbs.log2 < n := by omega
    exact (Nat.log2_lt hne).mp h1
theorem le_ibits {i : Int} {n : Nat} (h : i.natAbs < 2 ^ n) : Builtin.Int.intBits i ≤ n := by
  unfold Builtin.Int.intBits
  split
  · exact Nat.zero_le _
  · rename_i h0
    have hne : i.natAbs ≠ 0 := by
      intro z
      apply h0
      have : i = 0 := Int.natAbs_eq_zero.mp z
      simp [this]
    have := (Nat.log2_lt hne).mpr h
    omega
theorem cmulx {i j : Int} {a b : Nat} (ha : i.natAbs < 2 ^ a) (hb : j.natAbs < 2 ^ b) (h : a + b ≤ 134217728) : CMulX i j := mulx_ok ha hb h
theorem pow_add_lt {x y a b : Nat} (ha : x < 2 ^ a) (hb : y < 2 ^ b) : x * y < 2 ^ (a + b) := by
  rw [Nat.pow_add]; exact Nat.mul_lt_mul'' ha hb
theorem idx_nat {α : Type} {xs : List α} {j : Nat} {v : α} (h : xs[j]? = some v) : idx xs (j : Int) = .ok v := by
  unfold idx; rw [atI_nat h]
theorem idx_int {α : Type} {xs : List α} {i : Int} {v : α} (h0 : 0 ≤ i) (h : xs[i.toNat]? = some v) : idx xs i = .ok v := by
  have : i = (i.toNat : Int) := by omega
  rw [this]; exact idx_nat h
theorem compL_map {α β : Type} {t : α → Res Bool} {e : α → Res β} {g : α → β} {xs : List α} (ht : ∀ x ∈ xs, t x = .ok true) (he : ∀ x ∈ xs, e x = .ok (g x)) : compL t e xs = .ok (xs.map g) := by
  induction xs with
  | nil => rfl
  | cons x r ih =>
    show (t x).bind _ = _
    rw [ht x List.mem_cons_self]
    show (e x).bind _ = _
    rw [he x List.mem_cons_self]
    show (compL t e r).bind _ = _
    rw [ih (fun y hy => ht y (List.mem_cons_of_mem _ hy)) fun y hy => he y (List.mem_cons_of_mem _ hy)]
    rfl
mutual
/-- no truth values within -/
def D.nob : D → Bool
  | .bl _ => false
  | .ty _ => false
  | .obj _ _ _ => false
  | .ro _ => false
  | .dct _ _ => false
  | .tup xs => nobL xs
  | .lst xs => nobL xs
  | _ => true
def nobL : List D → Bool
  | [] => true
  | x :: xs => D.nob x && nobL xs
end
mutual
theorem pyEq_iff : ∀ (x y : D), x.nob = true → y.nob = true → (PyData.eqv x.py y.py = true ↔ x = y)
  | .non, y, _, h => by cases y <;> simp_all [D.py, PyData.eqv, D.nob]
  | .int i, y, _, h => by cases y <;> simp_all [D.py, PyData.eqv, D.nob]
  | .str s, y, _, h => by cases y <;> simp_all [D.py, PyData.eqv, D.nob]
  | .bl b, y, h, _ => by cases h
  | .ty b, y, h, _ => by cases h
  | .obj a b c, y, h, _ => by cases h
  | .ro a, y, h, _ => by cases h
  | .dct a b, y, h, _ => by cases h
  | .tup xs, y, h1, h => by
    cases y with
    | tup ys =>
      have := pyEqL_iff xs ys h1 h
      simp only [D.py, PyData.eqv, D.tup.injEq]; exact this
    | bl b => cases h
    | ty b => cases h
    | obj a b c => cases h
    | ro a => cases h
    | dct a b => cases h
    | _ => simp [D.py, PyData.eqv]
  | .lst xs, y, h1, h => by
    cases y with
    | lst ys =>
      have := pyEqL_iff xs ys h1 h
      simp only [D.py, PyData.eqv, D.lst.injEq]; exact this
    | bl b => cases h
    | ty b => cases h
    | obj a b c => cases h
    | ro a => cases h
    | dct a b => cases h
    | _ => simp [D.py, PyData.eqv]
theorem pyEqL_iff : ∀ (xs ys : List D), nobL xs = true → nobL ys = true → (PyData.eqvAll (pyL xs) (pyL ys) = true ↔ xs = ys)
  | [], ys, _, h => by cases ys <;> simp [pyL, PyData.eqvAll]
  | x :: xs, ys, h1, h => by
    cases ys with
    | nil => simp [pyL, PyData.eqvAll]
    | cons y ys =>
      obtain ⟨a1, a2⟩ := Bool.and_eq_true_iff.mp (show (D.nob x && nobL xs) = true from h1)
      obtain ⟨b1, b2⟩ := Bool.and_eq_true_iff.mp (show (D.nob y && nobL ys) = true from h)
      simp only [pyL, PyData.eqvAll, Bool.and_eq_true, pyEq_iff x y a1 b1, pyEqL_iff xs ys a2 b2, List.cons.injEq]
end
theorem pyEq_dec {x y : D} (hx : x.nob = true) (hy : y.nob = true) : pyEq x y = true ↔ x = y := pyEq_iff x y hx hy
theorem pyEq_self {x : D} (hx : x.nob = true) : pyEq x x = true := (pyEq_dec hx hx).mpr rfl
theorem pyEq_ne {x y : D} (hx : x.nob = true) (hy : y.nob = true) (h : x ≠ y) : pyEq x y = false := by
  cases e : pyEq x y with
  | false => rfl
  | true => exact absurd ((pyEq_dec hx hy).mp e) h
theorem nob_ints : ∀ xs : List Int, nobL (xs.map D.int) = true
  | [] => rfl
  | _ :: xs => nob_ints xs
theorem flat_ints : ∀ xs : List Int, flatL (xs.map D.int) = true
  | [] => rfl
  | _ :: xs => flat_ints xs
theorem lay_ints : ∀ xs : List Int, PyData.canLayAll0 (pyL (xs.map D.int)) = true
  | [] => rfl
  | _ :: xs => by show (true && _) = true; rw [lay_ints xs]; rfl
theorem dep_ints : ∀ xs : List Int, PyData.depthAll (pyL (xs.map D.int)) = 0
  | [] => rfl
  | _ :: xs => by show max 0 _ = 0; rw [dep_ints xs]; rfl
theorem okq_ints (xs : List Int) : (toD xs).okq = true := by
  show (flatL (xs.map D.int) && (PyData.canLayAll0 (pyL (xs.map D.int)) && decide (PyData.depthAll (pyL (xs.map D.int)) + 1 ≤ 64))) = true
  rw [flat_ints, lay_ints, dep_ints]; rfl
theorem toD_ints_inj {xs ys : List Int} (h : toD xs = toD ys) : xs = ys := by
  have h : xs.map D.int = ys.map D.int := D.lst.inj h
  exact List.map_inj_right (fun a b q => D.int.inj q) |>.mp h
theorem pyEq_ints (xs ys : List Int) : pyEq (toD xs) (toD ys) = decide (xs = ys) := by
  by_cases h : xs = ys
  · subst h; rw [pyEq_self (show (toD xs).nob = true from nob_ints xs)]; simp
  · rw [pyEq_ne (show (toD xs).nob = true from nob_ints xs) (show (toD ys).nob = true from nob_ints ys) fun e => h (toD_ints_inj e)]; simp [h]
theorem compL_get {α β : Type} (f : α → Res β) {xs : List α} {ys : List β} (h : xs.length = ys.length) (he : ∀ i (h1 : i < xs.length) (h2 : i < ys.length), f xs[i] = .ok ys[i]) : compL (fun _ => .ok true) f xs = .ok ys := by
  induction xs generalizing ys with
  | nil => cases ys with
    | nil => rfl
    | cons y r => simp at h
  | cons x xs ih =>
    cases ys with
    | nil => simp at h
    | cons y ys =>
      show (f x).bind _ = _
      rw [show f x = .ok y from he 0 (by simp) (by simp)]
      show (compL (fun _ => .ok true) f xs).bind _ = _
      rw [ih (by simpa using h) fun i h1 h2 => he (i + 1) (by simp; omega) (by simp; omega)]
      rfl
end Mi
set_option maxHeartbeats 1000000
namespace Mi
/-! ### primes -/
def IsP (n : Nat) : Prop := 2 ≤ n ∧ ∀ d, d ∣ n → d = 1 ∨ d = n
def prodL (l : List Nat) : Nat := l.foldr (· * ·) 1
/-- the power's residue, as the kernel works it out -/
def pwm (n : Nat) : Nat → Nat → Nat → Nat → Nat
  | 0, _, _, acc => acc
  | f + 1, b, e, acc => pwm n f (b * b % n) (e / 2) (if e % 2 = 1 then acc * b % n else acc)
/-- one prime q of n - 1, by numbers -/
def pkOk (n a q f : Nat) : Bool := decide (q ∣ n - 1) && decide (n - 1 < 2 ^ f) && decide (pwm n f a (n - 1) 1 % n = 1) && decide (Nat.gcd (pwm n f a ((n - 1) / q) 1 % n - 1) n = 1) && decide (0 < pwm n f a ((n - 1) / q) 1 % n)
def noDiv (n : Nat) : Nat → Nat → Bool
  | 0, _ => true
  | f + 1, d => !decide (n % d = 0) && noDiv n f (d + 1)
end Mi
set_option maxHeartbeats 1000000
namespace Mi
/-! ### residues -/
theorem em_mul {p x y u v : Int} (h : x % p = u % p) (h2 : y % p = v % p) : x * y % p = u * v % p := by rw [Int.mul_emod, h, h2, ← Int.mul_emod]
theorem em_dvd {p x y : Int} (h : x % p = y % p) : p ∣ x - y := Int.dvd_of_emod_eq_zero (Int.emod_eq_emod_iff_emod_sub_eq_zero.mp h)
theorem em_of_dvd {p x y : Int} (h : p ∣ x - y) : x % p = y % p := Int.emod_eq_emod_iff_emod_sub_eq_zero.mpr (Int.emod_eq_zero_of_dvd h)
/-! ### a polynomial's roots -/
def evp : List Int → Int → Int
  | [], _ => 0
  | c :: cs, x => c + x * evp cs x
def dvp : List Int → Int → List Int
  | [], _ => []
  | [_], _ => []
  | _ :: d :: cs, r => evp (d :: cs) r :: dvp (d :: cs) r
end Mi
set_option maxHeartbeats 1000000
namespace Mi
/-! ### residues as a ring -/
def zr (p : Nat) (x y : Int) : Prop := x % p = y % p
def Zp (p : Nat) : Type := Quot (zr p)
def zm (p : Nat) (x : Int) : Zp p := Quot.mk _ x
theorem zr_iff {p : Nat} {x y : Int} : zr p x y ↔ (p : Int) ∣ x - y := ⟨fun h => em_dvd h, fun h => em_of_dvd h⟩
section
variable {p : Nat}
def zadd : Zp p → Zp p → Zp p := Quot.lift (fun x => Quot.lift (fun y => zm p (x + y)) fun a b h => Quot.sound (by
  rw [zr_iff] at h ⊢; rw [show x + a - (x + b) = a - b by omega]; exact h)) fun a b h => by
  funext y
  induction y using Quot.ind
  refine Quot.sound ?_
  rw [zr_iff] at h ⊢
  rename_i y
  rw [show a + y - (b + y) = a - b by omega]; exact h
def zmul : Zp p → Zp p → Zp p := Quot.lift (fun x => Quot.lift (fun y => zm p (x * y)) fun a b h => Quot.sound (em_mul rfl h)) fun a b h => by
  funext y
  induction y using Quot.ind
  exact Quot.sound (em_mul h rfl)
def zneg : Zp p → Zp p := Quot.lift (fun x => zm p (-x)) fun a b h => Quot.sound (by
  rw [zr_iff] at h ⊢
  rw [show -a - -b = -(a - b) by omega]; exact Int.dvd_neg.mpr h)
instance : Add (Zp p) := ⟨zadd⟩
instance : Mul (Zp p) := ⟨zmul⟩
instance : Neg (Zp p) := ⟨zneg⟩
instance : Sub (Zp p) := ⟨fun x y => x + -y⟩
instance : NatCast (Zp p) := ⟨fun n => zm p (n : Int)⟩
instance : IntCast (Zp p) := ⟨fun n => zm p n⟩
instance (n : Nat) : OfNat (Zp p) n := ⟨zm p (n : Int)⟩
def zpow (x : Zp p) : Nat → Zp p
  | 0 => 1
  | n + 1 => zpow x n * x
instance : HPow (Zp p) Nat (Zp p) := ⟨zpow⟩
instance : SMul Nat (Zp p) := ⟨fun n x => (n : Zp p) * x⟩
instance : SMul Int (Zp p) := ⟨fun n x => (n : Zp p) * x⟩
instance : Lean.Grind.CommRing (Zp p) where
  add_zero := fun a => Quot.inductionOn a (fun x => congrArg (zm p) (Int.add_zero x))
  add_comm := fun a b => Quot.inductionOn a (fun x => Quot.inductionOn b (fun y => congrArg (zm p) (Int.add_comm x y)))
  add_assoc := fun a b c => Quot.inductionOn a (fun x => Quot.inductionOn b (fun y => Quot.inductionOn c (fun z => congrArg (zm p) (Int.add_assoc x y z))))
  mul_assoc := fun a b c => Quot.inductionOn a (fun x => Quot.inductionOn b (fun y => Quot.inductionOn c (fun z => congrArg (zm p) (Int.mul_assoc x y z))))
  mul_one := fun a => Quot.inductionOn a (fun x => congrArg (zm p) (Int.mul_one x))
  one_mul := fun a => Quot.inductionOn a (fun x => congrArg (zm p) (Int.one_mul x))
  left_distrib := fun a b c => Quot.inductionOn a (fun x => Quot.inductionOn b (fun y => Quot.inductionOn c (fun z => congrArg (zm p) (Int.mul_add x y z))))
  right_distrib := fun a b c => Quot.inductionOn a (fun x => Quot.inductionOn b (fun y => Quot.inductionOn c (fun z => congrArg (zm p) (Int.add_mul x y z))))
  zero_mul := fun a => Quot.inductionOn a (fun x => congrArg (zm p) (Int.zero_mul x))
  mul_zero := fun a => Quot.inductionOn a (fun x => congrArg (zm p) (Int.mul_zero x))
  pow_zero := fun a => rfl
  pow_succ := fun a n => rfl
  ofNat_succ := fun n => rfl
  ofNat_eq_natCast := fun n => rfl
  nsmul_eq_natCast_mul := fun n a => rfl
  neg_add_cancel := fun a => Quot.inductionOn a (fun x => congrArg (zm p) (Int.add_left_neg x))
  sub_eq_add_neg := fun a b => rfl
  neg_zsmul := fun i a => Quot.inductionOn a (fun x => congrArg (zm p) (Int.neg_mul i x))
  zsmul_natCast_eq_nsmul := fun n a => rfl
  intCast_ofNat := fun n => rfl
  intCast_neg := fun i => rfl
  mul_comm := fun a b => Quot.inductionOn a (fun x => Quot.inductionOn b (fun y => congrArg (zm p) (Int.mul_comm x y)))
end
end Mi
namespace Mi
end Mi
set_option maxHeartbeats 1000000
namespace Mi
open PySem PySem.Spec L2
/-! ### sizes, found by themselves -/
class Bd (x : Int) (n : outParam Nat) : Prop where
  lt : x.natAbs < 2 ^ n
class Pb (p : Nat) : Prop where
  pos : 0 < p
  lt : p < 2 ^ 256
theorem Bd.up {x : Int} {m n : Nat} (h : x.natAbs < 2 ^ m) (e : m ≤ n) : x.natAbs < 2 ^ n := Nat.lt_of_lt_of_le h (Nat.pow_le_pow_right (by decide) e)
instance bd_mul {x y : Int} {a b : Nat} [h1 : Bd x a] [h2 : Bd y b] : Bd (x * y) (a + b) := ⟨by rw [Int.natAbs_mul]; exact pow_add_lt h1.lt h2.lt⟩
theorem two_sum {u v a b : Nat} (h1 : u < 2 ^ a) (h2 : v < 2 ^ b) : u + v < 2 ^ (max a b + 1) := by
  have := Nat.lt_of_lt_of_le h1 (Nat.pow_le_pow_right (show 0 < 2 by decide) (Nat.le_max_left a b))
  have := Nat.lt_of_lt_of_le h2 (Nat.pow_le_pow_right (show 0 < 2 by decide) (Nat.le_max_right a b))
  rw [Nat.pow_succ]; omega
instance bd_add {x y : Int} {a b : Nat} [h1 : Bd x a] [h2 : Bd y b] : Bd (x + y) (max a b + 1) := ⟨Nat.lt_of_le_of_lt (Int.natAbs_add_le x y) (two_sum h1.lt h2.lt)⟩
instance bd_sub {x y : Int} {a b : Nat} [h1 : Bd x a] [h2 : Bd y b] : Bd (x - y) (max a b + 1) := ⟨Nat.lt_of_le_of_lt (Int.natAbs_sub_le x y) (two_sum h1.lt h2.lt)⟩
instance bd_neg {x : Int} {a : Nat} [h1 : Bd x a] : Bd (-x) a := ⟨by rw [Int.natAbs_neg]; exact h1.lt⟩
instance bd_pow {x : Int} {a k : Nat} [h1 : Bd x a] : Bd (x ^ k) (a * k + 1) := ⟨by
  rw [Int.natAbs_pow]
  have : x.natAbs ^ k ≤ (2 ^ a) ^ k := Nat.pow_le_pow_left (Nat.le_of_lt h1.lt) k
  rw [← Nat.pow_mul] at this
  have : 2 ^ (a * k) < 2 ^ (a * k + 1) := Nat.pow_lt_pow_right (by decide) (by omega)
  omega⟩
instance : Bd (0 : Int) 8 := ⟨by decide⟩
instance : Bd (1 : Int) 8 := ⟨by decide⟩
instance : Bd (2 : Int) 8 := ⟨by decide⟩
instance : Bd (3 : Int) 8 := ⟨by decide⟩
instance : Bd (4 : Int) 8 := ⟨by decide⟩
instance : Bd (5 : Int) 8 := ⟨by decide⟩
instance : Bd (6 : Int) 8 := ⟨by decide⟩
instance : Bd (7 : Int) 8 := ⟨by decide⟩
instance : Bd (8 : Int) 8 := ⟨by decide⟩
instance : Bd (9 : Int) 8 := ⟨by decide⟩
instance : Bd (12 : Int) 8 := ⟨by decide⟩
instance : Bd (13 : Int) 8 := ⟨by decide⟩
instance : Bd (16 : Int) 8 := ⟨by decide⟩
instance : Bd (27 : Int) 8 := ⟨by decide⟩
instance : Bd (2147483648 : Int) 70 := ⟨by decide +kernel⟩
instance : Bd (4294967296 : Int) 70 := ⟨by decide +kernel⟩
instance : Bd (2305843009213693952 : Int) 70 := ⟨by decide +kernel⟩
instance : Bd (9223372036854775808 : Int) 70 := ⟨by decide +kernel⟩
instance : Bd (18446744073709551616 : Int) 70 := ⟨by decide +kernel⟩
instance : Bd (6277101735386680763835789423207666416102355444464034512896 : Int) 200 := ⟨by decide +kernel⟩
instance bd_p {p : Nat} [h : Pb p] : Bd (p : Int) 256 := ⟨by rw [Int.natAbs_natCast]; exact h.lt⟩
instance bd_mod {p : Nat} {x : Int} [h : Pb p] : Bd (x % (p : Int)) 256 := ⟨by
  have := h.pos; have := h.lt
  have := Int.emod_nonneg x (show (p : Int) ≠ 0 by omega)
  have := Int.emod_lt_of_pos x (show (0 : Int) < (p : Int) by omega)
  omega⟩
end Mi
namespace Mi
open PySem PySem.Spec L2
/-! ### the law's own helpers -/
theorem cell_ok (ns : Ro Int) (k : Nat) : m_u_law_cell ns (k : Int) = .ok (ns.xs.getD k 0) := by
  unfold m_u_law_cell
  simp only [Res.bind_ok, cond_dec]
  by_cases h : (k : Int) < (ns.xs.length : Int)
  · rw [if_pos h]
    have h' : k < ns.xs.length := by omega
    rw [idx_nat (List.getElem?_eq_getElem h')]
    simp [Res.bind_ok, h']
  · rw [if_neg h]
    have h' : ¬ k < ns.xs.length := by omega
    simp [h']
theorem cell_ex (ns : Ro Int) {k : Int} (hk : 0 ≤ k) : ∃ c, m_u_law_cell ns k = .ok c := by
  obtain ⟨j, rfl⟩ := Int.eq_ofNat_of_zero_le hk
  exact ⟨_, cell_ok ns j⟩


/-! ### bytes -/
def dg : Nat → Int → List Int
  | 0, _ => []
  | s + 1, n => n % 256 :: dg s (n / 256)
abbrev fb (a d : Int) : Int := a * 256 + d
def Byt (ds : List Int) : Prop := ∀ d ∈ ds, 0 ≤ d ∧ d ≤ 255
theorem dg_len : ∀ (s : Nat) (n : Int), (dg s n).length = s
  | 0, _ => rfl
  | s + 1, n => by rw [dg, List.length_cons, dg_len]
theorem dg_byt : ∀ (s : Nat) (n : Int), Byt (dg s n)
  | 0, _ => fun d hd => by cases hd
  | s + 1, n => fun d hd => by
    rcases List.mem_cons.mp hd with rfl | hd
    · omega
    · exact dg_byt s _ d hd
theorem dg_get : ∀ (s : Nat) (n : Int) (i : Nat) (h : i < (dg s n).length), (dg s n)[i] = n / 256 ^ i % 256
  | 0, _, i, h => by cases h
  | s + 1, n, 0, h => by simp [dg]
  | s + 1, n, i + 1, h => by
    have h' : i < (dg s (n / 256)).length := by
      rw [dg, List.length_cons] at h; omega
    show (dg s (n / 256))[i] = _
    rw [dg_get s (n / 256) i h', Int.ediv_ediv_of_nonneg (by decide), Int.pow_succ, Int.mul_comm]
theorem p256 (k : Nat) : (2 : Int) ^ (8 * k) = 256 ^ k := by rw [Int.pow_mul]; rfl
theorem dg_val : ∀ (s : Nat) (n : Int), 0 ≤ n → n < 256 ^ s → (dg s n).foldr (fun d a => fb a d) 0 = n
  | 0, n, h0, h1 => by simp at h1; simp [dg]; omega
  | s + 1, n, h0, h1 => by
    rw [dg, List.foldr_cons, dg_val s (n / 256) (by omega) (by rw [Int.pow_succ] at h1; omega)]
    show n / 256 * 256 + n % 256 = n
    omega
theorem mask8 (x : Int) : Builtin.bitAnd x 255 = x % 256 := PySem.W.kbt_mask x 8
theorem big_loop (k : Int → Res Int) : ∀ (ds : List Int) (acc : Int) (j : Nat), 0 ≤ acc → acc.natAbs < 2 ^ (8 * j) → j + ds.length ≤ 5000 → Byt ds → m_from_big_l1 k ds acc = k (ds.foldl fb acc) := by
  intro ds
  induction ds with
  | nil => intro acc j _ _ _ _; rfl
  | cons d r ih =>
    intro acc j h0 h1 h2 h3
    rw [List.length_cons] at h2
    have hd := h3 d List.mem_cons_self
    have hc : CShl acc 8 := ⟨by decide, by have := le_ibits h1; omega⟩
    have e : Builtin.bitOr (acc * 2 ^ (8 : Int).toNat) d = fb acc d := or_low (k := 8) h0 hd.1 (by have : (2 : Int) ^ 8 = 256 := by decide
                                                                                                   omega)
    rw [m_from_big_l1]
    simp only [Res.bind_ok, need_bind, Res.need_pos hc, e]
    rw [ih (fb acc d) (j + 1) (by show 0 ≤ acc * 256 + d; omega) (by
      have e2 : (2 : Nat) ^ (8 * (j + 1)) = 2 ^ (8 * j) * 256 := by rw [Nat.mul_add, Nat.pow_add]
      rw [e2]
      show (acc * 256 + d).natAbs < _
      omega) (by omega) fun x hx => h3 x (List.mem_cons_of_mem _ hx)]
    rfl
theorem big_ok {ds : List Int} (h : Byt ds) (hl : ds.length ≤ 4900) : m_from_big ds = .ok (ds.foldl fb 0) := by
  unfold m_from_big
  simp only [Res.bind_ok]
  rw [big_loop _ ds 0 0 (Int.le_refl 0) (by decide) (by omega) h]
  rfl
/-! ### byte lists as values, forms and kinds -/
theorem wh_int (i : Int) : m_is_whole (D.int i) = .ok true := by
  have p1 : (toD (D.int i)).plain = true := rfl
  have h1 : isI "int" (toD (D.int i)) = true := rfl
  have h2 : isI "bool" (toD (D.int i)) = false := rfl
  unfold m_is_whole
  simp only [Res.need_pos p1, Res.bind_ok, h1, h2, cond_true, Bool.not_false]
theorem by_map : ∀ xs : List Int, (toD xs : D).asList = .ok (xs.map D.int) := fun xs => rfl
theorem bytes_ok {xs : List Int} (h : Byt xs) (hl : xs.length ≤ 16777216) : m_is_bytes (toD xs) = .ok true := by
  have p1 : (toD (toD xs : D)).plain = true := rfl
  have h1 : isI "list" (toD (toD xs : D)) = true := rfl
  have hn : (xs.map D.int).length ≤ 16777216 := by rw [List.length_map]; exact hl
  have e : ∀ x ∈ xs.map D.int, ((m_is_whole x).noexc).bind (fun b8 => cond b8 (x.asInt.bind fun (t7 : Int) => cond (decide ((0 : Int) ≤ t7)) (Res.ok (decide (t7 ≤ (255 : Int)))) (Res.ok false)) (Res.ok false)) = .ok true := by
    intro x hx
    obtain ⟨i, hi, rfl⟩ := List.mem_map.mp hx
    obtain ⟨a, b⟩ := h i hi
    have q : (D.int i).asInt = .ok i := rfl
    simp only [wh_int, Res.noexc, Res.bind_ok, cond_true, q, decide_eq_true a, decide_eq_true b]
  have c := compL_map (t := fun (_ : D) => Res.ok true) (e := fun x6 : D => ((m_is_whole x6).noexc).bind fun b8 => cond b8 (x6.asInt.bind fun (t7 : Int) => cond (decide ((0 : Int) ≤ t7)) (Res.ok (decide (t7 ≤ (255 : Int)))) (Res.ok false)) (Res.ok false)) (g := fun _ => true) (xs := xs.map D.int) (fun _ _ => rfl) e
  unfold m_is_bytes
  simp only [Res.need_pos p1, Res.bind_ok, h1, cond_true, by_map, Res.need_pos hn]
  rw [c]
  simp only [Res.bind_ok, List.all_map]
  congr 1
  exact List.all_eq_true.mpr fun _ _ => rfl
theorem bits_iff {n : Int} {s : Nat} (h0 : 0 ≤ n) : ((8 * (s : Int) < (Builtin.Int.intBits n : Int)) ↔ ¬ n < 256 ^ s) := by
  rw [← p256]
  constructor
  · intro h h1
    have e : n.natAbs < 2 ^ (8 * s) := by
      have : ((n.natAbs : Nat) : Int) < ((2 ^ (8 * s) : Nat) : Int) := by rw [PySem.W.kbt_cast]; omega
      omega
    have := le_ibits e
    omega
  · intro h
    refine Int.lt_of_not_ge fun h1 => h ?_
    have e := ibits_le (i := n) (n := 8 * s) (by omega)
    have : ((n.natAbs : Nat) : Int) < ((2 ^ (8 * s) : Nat) : Int) := by omega
    rw [PySem.W.kbt_cast] at this; omega
theorem little_ok {n : Int} {s : Nat} (hs : s ≤ 300) (h0 : 0 ≤ n) (h1 : n < 256 ^ s) : m_to_little n (s : Int) = .ok (dg s n) := by
  unfold m_to_little
  have hb : ¬ 8 * (s : Int) < (Builtin.Int.intBits n : Int) := fun h => bits_iff h0 |>.mp h h1
  have hr : okRange (s : Int) := ⟨by omega, by omega⟩
  have hl : (pyRange 0 (s : Int)).length = s := by rw [pyRange_len]; omega
  simp only [Res.bind_ok, need_bind]
  rw [decide_eq_false (show ¬ n < 0 by omega), decide_eq_false hb]
  simp only [cond_false, Res.bind_ok, Res.need_pos hr]
  rw [Res.need_pos (show (pyRange 0 (s : Int)).length ≤ 16777216 by omega)]
  refine compL_get _ (by rw [hl, dg_len]) fun i a b => ?_
  have e : (pyRange 0 (s : Int))[i] = (i : Int) := by simp [pyRange]
  rw [e, Res.need_pos (by omega), dg_get, mask8, show (8 * (i : Int)).toNat = 8 * i by omega, p256]
theorem tobig_ok {n : Int} {s : Nat} (hs : s ≤ 300) (h0 : 0 ≤ n) (h1 : n < 256 ^ s) : m_to_big n (s : Int) = .ok (dg s n).reverse := by
  unfold m_to_big
  rw [little_ok hs h0 h1]; rfl
theorem dg_rval {s : Nat} {n : Int} (h0 : 0 ≤ n) (h1 : n < 256 ^ s) : (dg s n).reverse.foldl fb 0 = n := by
  rw [List.foldl_reverse]; exact dg_val s n h0 h1
theorem byt_app {xs ys : List Int} (h : Byt xs) (k : Byt ys) : Byt (xs ++ ys) := fun d hd => by
  rcases List.mem_append.mp hd with hd | hd
  · exact h d hd
  · exact k d hd

theorem cut_part (xs : List Int) (j k : Nat) (h : j ≤ k) (h2 : k ≤ xs.length) : cutL xs (some (j : Int)) (some (k : Int)) = (xs.drop j).take (k - j) := by
  unfold cutL
  rw [HT.sIx_nat, HT.sIx_nat, Nat.min_eq_left (show j ≤ xs.length by omega), Nat.min_eq_left h2]
theorem cut_byt {xs : List Int} (h : Byt xs) (lo hi : Option Int) : Byt (cutL xs lo hi) := fun d hd => h d (List.mem_of_mem_drop (List.mem_of_mem_take hd))
theorem cut_len {xs : List Int} (lo hi : Option Int) : (cutL xs lo hi).length ≤ xs.length := by
  unfold cutL
  rw [List.length_take, List.length_drop]; omega
theorem fold_nn : ∀ (ds : List Int) (a : Int), 0 ≤ a → Byt ds → 0 ≤ ds.foldl fb a
  | [], a, h, _ => h
  | d :: r, a, h, hb => fold_nn r _ (by have := hb d List.mem_cons_self; show 0 ≤ a * 256 + d; omega) fun z hz => hb z (List.mem_cons_of_mem _ hz)
/-! ### the laws' little things over Edwards groups -/
theorem bits_le {p b : Nat} (h : 2 ^ b ≤ p) : b < Builtin.Int.intBits (p : Int) := Nat.lt_of_not_le fun z => by
  have := ibits_le z
  rw [Int.natAbs_natCast] at this; omega
theorem bits_dvd {n : Int} {m : Nat} (h : 0 ≤ n) (k : Builtin.Int.intBits n ≤ m) : n < 2 ^ m := by
  have := ibits_le k
  have : ((n.natAbs : Nat) : Int) < ((2 ^ m : Nat) : Int) := by omega
  rw [PySem.W.kbt_cast] at this; omega
/-! ### drawn bytes -/
theorem twice_ok (c : Int) {k : Int} : ∃ x, m_u_law_twice c k = .ok x ∧ 0 ≤ x := by
  have b : ∀ x : Int, 0 ≤ x → x < 2147483648 → CMulX x x := fun x h0 h1 => cmulx (a := 32) (b := 32) (by omega) (by omega) (by decide)
  unfold m_u_law_twice
  simp only [Res.bind_ok]
  have a0 := Int.emod_nonneg (c * 48271 + k * 69621 + 7) (show (2147483647 : Int) ≠ 0 by decide)
  have a1 := Int.emod_lt_of_pos (c * 48271 + k * 69621 + 7) (show (0 : Int) < 2147483647 by decide)
  generalize (c * 48271 + k * 69621 + 7) % 2147483647 = x at *
  rw [Res.need_pos (b x a0 (by omega))]
  simp only [Res.bind_ok]
  have a0 := Int.emod_nonneg (x * x + k * 40692 + 3) (show (2147483629 : Int) ≠ 0 by decide)
  have a1 := Int.emod_lt_of_pos (x * x + k * 40692 + 3) (show (0 : Int) < 2147483629 by decide)
  generalize (x * x + k * 40692 + 3) % 2147483629 = y at *
  rw [Res.need_pos (b y a0 (by omega))]
  simp only [Res.bind_ok]
  refine ⟨_, rfl, ?_⟩
  have a0 := Int.emod_nonneg (y * y + k * 30269 + 5) (show (2147483587 : Int) ≠ 0 by decide)
  omega
theorem byt_snoc {xs : List Int} (h : Byt xs) {y : Int} (h0 : 0 ≤ y) (h1 : y ≤ 255) : Byt (xs ++ [y]) := byt_app h fun d hd => by rw [List.mem_singleton.mp hd]; exact ⟨h0, h1⟩
theorem dby_loop (c : Int) (gr : Bool) (k : Int × List Int → Res (List Int)) : ∀ (ks : List Int) (l : Int) (ds : List Int), Byt ds → ds.length + ks.length ≤ 10000 → ∃ l' es, m_u_law_bytes_l1 c gr k ks (l, ds) = k (l', es) ∧ Byt es ∧ es.length = ds.length + ks.length
  | [], l, ds, h, _ => ⟨l, ds, by rw [m_u_law_bytes_l1], h, rfl⟩
  | x :: r, l, ds, h, hl => by
    rw [List.length_cons] at hl ⊢
    obtain ⟨t, e, t0⟩ := twice_ok c (k := x)
    have go : ∀ (y l1 : Int), 0 ≤ y → y ≤ 255 → ∃ l' es, m_u_law_bytes_l1 c gr k r (l1, ds ++ [y]) = k (l', es) ∧ Byt es ∧ es.length = ds.length + (r.length + 1) := fun y l1 y0 y1 => by
      obtain ⟨l', es, q1, q2, q3⟩ := dby_loop c gr k r l1 (ds ++ [y]) (byt_snoc h y0 y1) (by rw [List.length_append, List.length_singleton]; omega)
      exact ⟨l', es, q1, q2, by rw [List.length_append, List.length_singleton] at q3; omega⟩
    rw [m_u_law_bytes_l1]
    simp only [Res.bind_ok, e, Res.need_pos (show ds.length < 16777216 by omega)]
    have w : (cond gr (Res.ok (decide (0 < l))) (Res.ok false)) = Res.ok (cond gr (decide (0 < l)) false) := by cases gr <;> rfl
    rw [w]
    simp only [Res.bind_ok]
    cases (cond gr (decide (0 < l)) false) with
    | true => rw [cond_true]; exact go _ _ (by omega) (by omega)
    | false => rw [cond_false]; exact go _ _ (by omega) (by omega)
theorem dby_ok (c : Int) {s : Nat} (hs : s ≤ 9000) : ∃ es, m_u_law_bytes c (s : Int) = .ok es ∧ Byt es ∧ es.length = s := by
  obtain ⟨l', es, q1, q2, q3⟩ := dby_loop c (decide ((10 : Int) ^ (18 : Int).toNat ≤ (c.natAbs : Int))) m_u_law_bytes_k2 (pyRange 0 (s : Int)) (c.natAbs : Int) [] (fun d hd => by cases hd) (by rw [pyRange_len, List.length_nil]; omega)
  refine ⟨es, ?_, q2, by rw [q3, pyRange_len, List.length_nil]; omega⟩
  unfold m_u_law_bytes
  simp only [Res.bind_ok, Res.need_pos (show okRange (s : Int) from ⟨by omega, by omega⟩), q1]
  rfl

/-! ### k32: lengths and numbers with a tag -/
def lenF (s : Int) : List Int := if s < 128 then [s] else if s < 256 then [129, s] else [130, s / 256, s % 256]
theorem wl_ok {s : Int} (h0 : 0 ≤ s) (h1 : s ≤ 65535) : m_write_length s = .ok (lenF s) := by
  have tb : m_to_big s (2 : Int) = .ok (dg 2 s).reverse := tobig_ok (s := 2) (by decide) h0 (show s < 256 ^ 2 by show s < 65536; omega)
  unfold m_write_length lenF
  rw [decide_eq_false (show ¬ s < 0 by omega), cond_false, decide_eq_false (show ¬ 65535 < s by omega)]
  simp only [Res.bind_ok, cond_false]
  by_cases a : s < 128
  · rw [decide_eq_true a, if_pos a]; rfl
  · by_cases b : s < 256
    · rw [decide_eq_false a, decide_eq_true b, if_neg a, if_pos b]; rfl
    · rw [decide_eq_false a, decide_eq_false b, if_neg a, if_neg b, cond_false, cond_false, tb, Res.bind_ok]
      have e : (dg 2 s).reverse = [s / 256, s % 256] := by
        show [s / 256 % 256, s % 256] = _
        rw [show s / 256 % 256 = s / 256 by omega]
      rw [e, Res.need_pos (show ([130] : List Int).length + [s / 256, s % 256].length ≤ 16777216 by show 1 + 2 ≤ 16777216; decide)]; rfl
theorem wl_bad {s : Int} (h : s < 0 ∨ 65535 < s) : m_write_length s = .exc "OutOfRange" := by
  unfold m_write_length
  by_cases a : s < 0
  · rw [decide_eq_true a]; rfl
  · rw [decide_eq_false a, decide_eq_true (show 65535 < s by omega)]; rfl
theorem ll_ok (s : Int) : m_u_law_length s = .ok (lenF s) := by
  unfold m_u_law_length lenF
  simp only [Res.bind_ok]
  by_cases a : s < 128
  · rw [decide_eq_true a, if_pos a]; rfl
  · by_cases b : s < 256
    · rw [decide_eq_false a, decide_eq_true b, if_neg a, if_pos b]; rfl
    · rw [decide_eq_false a, decide_eq_false b, if_neg a, if_neg b]; rfl
theorem nc_ok {n : Int} (h0 : 0 ≤ n) (h1 : Builtin.Int.intBits n ≤ 520) : m_u_number_content n = .ok (dg (Builtin.Int.intBits n / 8 + 1) n).reverse := by
  have e : (((Builtin.Int.intBits n : Nat) : Int) / 8 + 1) = ((Builtin.Int.intBits n / 8 + 1 : Nat) : Int) := by omega
  unfold m_u_number_content
  rw [e]
  refine tobig_ok (by omega) h0 ?_
  have b := ibits_le (i := n) (n := 8 * (Builtin.Int.intBits n / 8 + 1)) (by omega)
  rw [← p256]
  have : ((n.natAbs : Nat) : Int) < ((2 ^ (8 * (Builtin.Int.intBits n / 8 + 1)) : Nat) : Int) := by omega
  rw [PySem.W.kbt_cast] at this
  omega

theorem mid_cut (p q r : List Int) : cutL (p ++ q ++ r) (some (p.length : Int)) (some ((p.length + q.length : Nat) : Int)) = q := by
  rw [cut_part _ _ _ (by omega) (by simp), List.append_assoc, List.drop_left, show p.length + q.length - p.length = q.length by omega, List.take_left]
theorem rl_ok (p r : List Int) {s : Int} (h0 : 0 ≤ s) (h1 : s ≤ 65535) : m_read_length (p ++ lenF s ++ r) (p.length : Int) = .ok (T2.mk s ((p.length + (lenF s).length : Nat) : Int)) := by
  have fin : m_read_length_k2 (p ++ lenF s ++ r) (p.length : Int) (((p.length + (lenF s).length : Nat) : Int), s) = .ok (T2.mk s ((p.length + (lenF s).length : Nat) : Int)) := by
    unfold m_read_length_k2
    simp only [Res.bind_ok, mid_cut, wl_ok h0 h1, Res.need_pos (show (toD (lenF s)).okq = true ∧ (toD (lenF s)).okq = true from ⟨okq_ints _, okq_ints _⟩)]
    rw [pyEq_self (show (toD (lenF s)).nob = true from nob_ints _)]; rfl
  by_cases a : s < 128
  · have e : lenF s = [s] := by unfold lenF; rw [if_pos a]
    have c := mid_cut p [s] r
    rw [e] at fin ⊢
    have c : cutL (p ++ [s] ++ r) (some (p.length : Int)) (some ((p.length : Int) + 1)) = [s] := c
    have i0 : idx ([s] : List Int) (0 : Int) = .ok s := rfl
    have mm : decide (s ∈ ([129, 130] : List Int)) = false := decide_eq_false (by simp; omega)
    unfold m_read_length
    simp only [Res.bind_ok, c, i0]
    rw [show decide ((([s] : List Int).length : Int) = 0) = false from rfl, cond_false, mm, cond_false]
    exact fin
  · by_cases b : s < 256
    · have e : lenF s = [129, s] := by unfold lenF; rw [if_neg a, if_pos b]
      have c := mid_cut p [129] ([s] ++ r)
      have c2 := mid_cut (p ++ [129]) [s] r
      rw [e] at fin ⊢
      have d1 : p ++ [129] ++ ([s] ++ r) = p ++ [129, s] ++ r := by simp
      have d2 : p ++ [129] ++ [s] ++ r = p ++ [129, s] ++ r := by simp
      rw [d1] at c
      rw [d2] at c2
      have c : cutL (p ++ [129, s] ++ r) (some (p.length : Int)) (some ((p.length : Int) + 1)) = [129] := c
      have u1 : ((p ++ [129]).length : Int) = (p.length : Int) + 1 := by rw [List.length_append]; rfl
      have u2 : (((p ++ [129]).length + [s].length : Nat) : Int) = (p.length : Int) + 1 + (129 - 128) := by rw [List.length_append, List.length_singleton, List.length_singleton]; omega
      rw [u1, u2] at c2
      have i0 : idx ([129] : List Int) (0 : Int) = .ok 129 := rfl
      have bg : m_from_big [s] = .ok s := by
        have := big_ok (ds := [s]) (fun d hd => by rw [List.mem_singleton.mp hd]; omega) (show 1 ≤ 4900 by decide)
        rw [this]
        show Res.ok (0 * 256 + s) = _
        rw [Int.zero_mul, Int.zero_add]
      unfold m_read_length
      simp only [Res.bind_ok, c, i0]
      rw [show decide ((([129] : List Int).length : Int) = 0) = false from rfl, cond_false, show decide ((129 : Int) ∈ ([129, 130] : List Int)) = true from rfl, cond_true]
      simp only [c2, Res.bind_ok, bg]
      rw [show ((p.length : Int) + 1 + (129 - 128)) = ((p.length + ([129, s] : List Int).length : Nat) : Int) by show _ = ((p.length + 2 : Nat) : Int); omega]
      exact fin
    · have e : lenF s = [130, s / 256, s % 256] := by unfold lenF; rw [if_neg a, if_neg b]
      have c := mid_cut p [130] ([s / 256, s % 256] ++ r)
      have c2 := mid_cut (p ++ [130]) [s / 256, s % 256] r
      rw [e] at fin ⊢
      have d1 : p ++ [130] ++ ([s / 256, s % 256] ++ r) = p ++ [130, s / 256, s % 256] ++ r := by simp
      have d2 : p ++ [130] ++ [s / 256, s % 256] ++ r = p ++ [130, s / 256, s % 256] ++ r := by simp
      rw [d1] at c
      rw [d2] at c2
      have c : cutL (p ++ [130, s / 256, s % 256] ++ r) (some (p.length : Int)) (some ((p.length : Int) + 1)) = [130] := c
      have u1 : ((p ++ [130]).length : Int) = (p.length : Int) + 1 := by rw [List.length_append]; rfl
      have u2 : (((p ++ [130]).length + [s / 256, s % 256].length : Nat) : Int) = (p.length : Int) + 1 + (130 - 128) := by
        rw [List.length_append, List.length_singleton]
        show ((p.length + 1 + 2 : Nat) : Int) = _
        omega
      rw [u1, u2] at c2
      have i0 : idx ([130] : List Int) (0 : Int) = .ok 130 := rfl
      have bg : m_from_big [s / 256, s % 256] = .ok s := by
        have := big_ok (ds := [s / 256, s % 256]) (fun d hd => by
          rcases List.mem_cons.mp hd with rfl | hd
          · omega
          · rw [List.mem_singleton.mp hd]; omega) (show 2 ≤ 4900 by decide)
        rw [this]
        show Res.ok ((0 * 256 + s / 256) * 256 + s % 256) = _
        congr 1
        omega
      unfold m_read_length
      simp only [Res.bind_ok, c, i0]
      rw [show decide ((([130] : List Int).length : Int) = 0) = false from rfl, cond_false, show decide ((130 : Int) ∈ ([129, 130] : List Int)) = true from rfl, cond_true]
      simp only [c2, Res.bind_ok, bg]
      rw [show ((p.length : Int) + 1 + (130 - 128)) = ((p.length + ([130, s / 256, s % 256] : List Int).length : Nat) : Int) by show _ = ((p.length + 3 : Nat) : Int); omega]
      exact fin

/-! ### tagged parts, both ways -/
def conF (n : Int) : List Int := (dg (Builtin.Int.intBits n / 8 + 1) n).reverse
def encF (t : Int) (c : List Int) : List Int := t :: (lenF (c.length : Int) ++ c)
def numF (n : Int) : List Int := encF 2 (conF n)
def pairF (r s : Int) : List Int := encF 48 (numF r ++ numF s)
def encP (p : T2 Int (List Int)) : List Int := encF p.a p.b
theorem lenF_len (s : Int) : 1 ≤ (lenF s).length ∧ (lenF s).length ≤ 3 := by
  unfold lenF
  split
  · rw [List.length_singleton]; omega
  · split
    · show 1 ≤ 2 ∧ 2 ≤ 3; omega
    · show 1 ≤ 3 ∧ 3 ≤ 3; omega
theorem conF_len (n : Int) : (conF n).length = Builtin.Int.intBits n / 8 + 1 := by unfold conF; rw [List.length_reverse, dg_len]
theorem conF_byt (n : Int) : Byt (conF n) := fun d hd => dg_byt _ _ d (List.mem_reverse.mp hd)
theorem encF_len (t : Int) (c : List Int) : c.length + 2 ≤ (encF t c).length ∧ (encF t c).length ≤ c.length + 4 := by
  have := lenF_len (c.length : Int)
  unfold encF
  rw [List.length_cons, List.length_append]
  omega
theorem bits_lt2 {n : Int} {m : Nat} (h0 : 0 ≤ n) (h : Builtin.Int.intBits n ≤ m) : n < 2 ^ m := bits_dvd h0 h
theorem conF_val {n : Int} (h0 : 0 ≤ n) : (conF n).foldl fb 0 = n := by
  unfold conF
  refine dg_rval h0 ?_
  have := bits_lt2 h0 (Nat.le_refl (Builtin.Int.intBits n))
  have q : (2 : Int) ^ Builtin.Int.intBits n ≤ 256 ^ (Builtin.Int.intBits n / 8 + 1) := by
    rw [show (256 : Int) = 2 ^ 8 from rfl, ← Int.pow_mul]
    have := Nat.pow_le_pow_right (n := 2) (by decide) (show Builtin.Int.intBits n ≤ 8 * (Builtin.Int.intBits n / 8 + 1) by omega)
    rw [← PySem.W.kbt_cast, ← PySem.W.kbt_cast]
    omega
  omega
theorem part_ok (t : Int) {c : List Int} (h : c.length ≤ 65535) : m_u_part t c = .ok (encF t c) := by
  have l := lenF_len (c.length : Int)
  unfold m_u_part encF
  rw [wl_ok (by omega) (by omega)]
  simp only [Res.bind_ok]
  rw [Res.need_pos (by rw [List.length_singleton]; omega), Res.bind_ok, Res.need_pos (by rw [List.length_append, List.length_singleton]; omega)]
  rfl
theorem wnum_ok {n : Int} (h0 : 0 ≤ n) (h : Builtin.Int.intBits n ≤ 520) : m_write_number n = .ok (numF n) := by
  have l := conF_len n
  unfold m_write_number
  rw [decide_eq_false (show ¬ n < 0 by omega), cond_false, Res.bind_ok, decide_eq_false (by omega), cond_false, nc_ok h0 h]
  exact part_ok 2 (by show (conF n).length ≤ _; omega)
theorem numF_len {n : Int} (h : Builtin.Int.intBits n ≤ 520) : (numF n).length ≤ 70 := by
  have := encF_len 2 (conF n)
  have := conF_len n
  unfold numF; omega
theorem cut_sat (xs : List Int) (j k : Nat) (h : j ≤ xs.length) : cutL xs (some (j : Int)) (some (k : Int)) = (xs.drop j).take (k - j) := by
  unfold cutL
  rw [HT.sIx_nat, HT.sIx_nat, Nat.min_eq_left h]
  by_cases c : k ≤ xs.length
  · rw [Nat.min_eq_left c]
  · rw [Nat.min_eq_right (by omega), List.take_of_length_le (by rw [List.length_drop]; omega), List.take_of_length_le (by rw [List.length_drop]; omega)]
theorem rlen_k2 {data : List Int} {j k : Nat} {s : Int} (s0 : 0 ≤ s) (s1 : s ≤ 65535) : m_read_length_k2 data (j : Int) ((k : Int), s) = if cutL data (some (j : Int)) (some (k : Int)) = lenF s then .ok (T2.mk s (k : Int)) else .exc "Malformed" := by
  unfold m_read_length_k2
  simp only [Res.bind_ok, wl_ok s0 s1, Res.need_pos (And.intro (okq_ints _) (okq_ints _)), pyEq_ints]
  by_cases c : cutL data (some (j : Int)) (some (k : Int)) = lenF s
  · rw [decide_eq_true c, if_pos c]; rfl
  · rw [decide_eq_false c, if_neg c]; rfl
theorem rlen_inv {data : List Int} (hb : Byt data) {j : Nat} (hj : j ≤ data.length) : m_read_length data (j : Int) = .exc "Malformed" ∨ ∃ s k : Nat, m_read_length data (j : Int) = .ok (T2.mk (s : Int) (k : Int)) ∧ s ≤ 65535 ∧ j < k ∧ (data.drop j).take (k - j) = lenF (s : Int) := by
  have fin : ∀ (s k : Nat), s ≤ 65535 → j < k → m_read_length_k2 data (j : Int) ((k : Int), (s : Int)) = .exc "Malformed" ∨ ∃ s' k' : Nat, m_read_length_k2 data (j : Int) ((k : Int), (s : Int)) = .ok (T2.mk (s' : Int) (k' : Int)) ∧ s' ≤ 65535 ∧ j < k' ∧ (data.drop j).take (k' - j) = lenF (s' : Int) := by
    intro s k hs hk
    rw [rlen_k2 (by omega) (by omega)]
    by_cases c : cutL data (some (j : Int)) (some (k : Int)) = lenF (s : Int)
    · rw [if_pos c]
      rw [cut_sat _ _ _ hj] at c
      exact .inr ⟨s, k, rfl, hs, hk, c⟩
    · rw [if_neg c]; exact .inl rfl
  have c1 := cut_sat data j (j + 1) hj
  have b1 := cut_byt hb (some (j : Int)) (some ((j : Int) + 1))
  rw [show ((j + 1 : Nat) : Int) = (j : Int) + 1 by omega, show j + 1 - j = 1 by omega] at c1
  unfold m_read_length
  simp only [Res.bind_ok]
  have l1 : (cutL data (some (j : Int)) (some ((j : Int) + 1))).length ≤ 1 := by rw [c1, List.length_take]; omega
  generalize cutL data (some (j : Int)) (some ((j : Int) + 1)) = first at *
  cases first with
  | nil => exact .inl rfl
  | cons f r =>
    have r0 : r = [] := List.length_eq_zero_iff.mp (by rw [List.length_cons] at l1; omega)
    subst r0
    have fB := b1 f (List.mem_singleton.mpr rfl)
    obtain ⟨s, rfl⟩ := Int.eq_ofNat_of_zero_le fB.1
    rw [show decide ((([((s : Nat) : Int)] : List Int).length : Int) = 0) = false from rfl, cond_false, show idx [((s : Nat) : Int)] (0 : Int) = .ok (s : Int) from rfl, Res.bind_ok]
    by_cases m : ((s : Nat) : Int) ∈ ([129, 130] : List Int)
    · rw [decide_eq_true m, cond_true]
      have m2 : s = 129 ∨ s = 130 := by
        rcases List.mem_cons.mp m with e | m
        · exact .inl (by omega)
        · have := List.mem_singleton.mp m; exact .inr (by omega)
      have e : (j : Int) + 1 + ((s : Int) - 128) = ((j + 1 + (s - 128) : Nat) : Int) := by omega
      rw [e]
      have b2 := cut_byt hb (some ((j : Int) + 1)) (some ((j + 1 + (s - 128) : Nat) : Int))
      have l2 : (cutL data (some ((j : Int) + 1)) (some ((j + 1 + (s - 128) : Nat) : Int))).length ≤ 2 := by
        unfold cutL
        rw [show (j : Int) + 1 = ((j + 1 : Nat) : Int) by omega, HT.sIx_nat, HT.sIx_nat, List.length_take]
        omega
      generalize cutL data (some ((j : Int) + 1)) (some ((j + 1 + (s - 128) : Nat) : Int)) = ds at *
      rw [big_ok b2 (by omega), Res.bind_ok]
      have v0 := fold_nn ds 0 (by decide) b2
      have v1 : ds.foldl fb 0 ≤ 65535 := by
        match ds, l2, b2 with
        | [], _, _ => decide
        | [a], _, b => have := b a List.mem_cons_self; show 0 * 256 + a ≤ _; omega
        | [a, c], _, b => have := b a List.mem_cons_self; have := b c (List.mem_cons_of_mem _ List.mem_cons_self); show (0 * 256 + a) * 256 + c ≤ _; omega
        | _ :: _ :: _ :: _, h, _ => rw [List.length_cons, List.length_cons, List.length_cons] at h; omega
      obtain ⟨z, hz⟩ := Int.eq_ofNat_of_zero_le v0
      rw [hz]
      exact fin z _ (by omega) (by omega)
    · rw [decide_eq_false m, cond_false]
      exact fin s (j + 1) (by omega) (by omega)
theorem w1_step (data : List Int) (k : List (T2 Int (List Int)) × Int → Res (List (T2 Int (List Int)))) (f : Nat) (parts : List (T2 Int (List Int))) (at_ : Int) (h : at_ < (data.length : Int)) (hp : parts.length < 16777216) : m_u_split_parts_w1 data k (f + 1) (parts, at_) = (m_read_length data (at_ + 1)).bind fun u => if (data.length : Int) < u.b + u.a then .exc "Malformed" else ((idx data at_).bind fun t => m_u_split_parts_w1 data k f (parts ++ [T2.mk t (cutL data (some u.b) (some (u.b + u.a)))], u.b + u.a)) := by
  rw [m_u_split_parts_w1]
  rw [Res.bind_ok, decide_eq_true h, cond_true]
  congr 1
  funext u
  simp only [Res.bind_ok]
  by_cases c : (data.length : Int) < u.b + u.a
  · rw [decide_eq_true c, if_pos c]; rfl
  · rw [decide_eq_false c, if_neg c, cond_false]
    cases idx data at_ with
    | ok t => simp only [Res.bind_ok, Res.need_pos hp]
    | exc c => rfl
    | stuck => rfl
theorem w1_end (data : List Int) (f : Nat) (parts : List (T2 Int (List Int))) (at_ : Int) (h : ¬ at_ < (data.length : Int)) : m_u_split_parts_w1 data m_u_split_parts_k3 (f + 1) (parts, at_) = .ok parts := by
  rw [m_u_split_parts_w1, Res.bind_ok, decide_eq_false h, cond_false]
  rfl
theorem sp_inv {data : List Int} (hb : Byt data) (hl : data.length ≤ 4000) : ∀ (f : Nat) (parts : List (T2 Int (List Int))) (j : Nat), j ≤ data.length → data.length - j < f → parts.length ≤ j → m_u_split_parts_w1 data m_u_split_parts_k3 f (parts, (j : Int)) = .exc "Malformed" ∨ ∃ rest, m_u_split_parts_w1 data m_u_split_parts_k3 f (parts, (j : Int)) = .ok (parts ++ rest) ∧ data.drop j = rest.flatMap encP ∧ ∀ p ∈ rest, Byt p.b ∧ p.b.length ≤ data.length
  | 0, _, _, _, h, _ => by omega
  | f + 1, parts, j, h1, h2, h3 => by
    by_cases c : j < data.length
    · rw [w1_step _ _ _ _ _ (by omega) (by omega), show (j : Int) + 1 = ((j + 1 : Nat) : Int) by omega]
      rcases rlen_inv hb (j := j + 1) (by omega) with e | ⟨s, k, e, s1, jk, t⟩
      · rw [e]; exact .inl rfl
      · rw [e, Res.bind_ok]
        dsimp only
        by_cases q : (data.length : Int) < (k : Int) + (s : Int)
        · rw [if_pos q]; exact .inl rfl
        · rw [if_neg q]
          have ix : idx data (j : Int) = .ok (data[j]'c) := idx_nat (List.getElem?_eq_getElem c)
          rw [ix, Res.bind_ok, show (k : Int) + (s : Int) = ((k + s : Nat) : Int) by omega]
          have cc := cut_sat data k (k + s) (by omega)
          rw [show k + s - k = s by omega] at cc
          have cb := cut_byt hb (some (k : Int)) (some ((k + s : Nat) : Int))
          have cl := cut_len (xs := data) (some (k : Int)) (some ((k + s : Nat) : Int))
          rcases sp_inv hb hl f (parts ++ [T2.mk data[j] (cutL data (some (k : Int)) (some ((k + s : Nat) : Int)))]) (k + s) (by omega) (by omega) (by rw [List.length_append, List.length_singleton]; omega) with e2 | ⟨rest, e2, d2, m2⟩
          · exact .inl e2
          · refine .inr ⟨T2.mk data[j] (cutL data (some (k : Int)) (some ((k + s : Nat) : Int))) :: rest, ?_, ?_, ?_⟩
            · rw [e2, List.append_assoc]; rfl
            · rw [List.flatMap_cons, ← d2, List.drop_eq_getElem_cons c]
              have l : (cutL data (some (k : Int)) (some ((k + s : Nat) : Int))).length = s := by
                rw [cc, List.length_take, List.length_drop]; omega
              show _ = data[j] :: (lenF ((cutL data (some (k : Int)) (some ((k + s : Nat) : Int))).length : Int) ++ cutL data (some (k : Int)) (some ((k + s : Nat) : Int))) ++ data.drop (k + s)
              rw [l, ← t, cc, List.cons_append, List.append_assoc]
              congr 1
              have a1 := List.take_append_drop (k - (j + 1)) (data.drop (j + 1))
              rw [List.drop_drop, show j + 1 + (k - (j + 1)) = k by omega] at a1
              have a2 := List.take_append_drop s (data.drop k)
              rw [List.drop_drop] at a2
              rw [a2, a1]
            · intro p hp
              rcases List.mem_cons.mp hp with rfl | hp
              · exact ⟨cb, cl⟩
              · exact m2 p hp
    · have : j = data.length := by omega
      rw [w1_end _ _ _ _ (by omega)]
      exact .inr ⟨[], by rw [List.append_nil], by rw [this, List.drop_length]; rfl, fun p hp => nomatch hp⟩
theorem split_inv {data : List Int} (hb : Byt data) (hl : data.length ≤ 4000) : m_u_split_parts data = .exc "Malformed" ∨ ∃ ps, m_u_split_parts data = .ok ps ∧ data = ps.flatMap encP ∧ ∀ p ∈ ps, Byt p.b ∧ p.b.length ≤ data.length := by
  have q := sp_inv hb hl (data.length + 1) [] 0 (Nat.zero_le _) (by omega) (Nat.le_refl _)
  exact q
theorem sp_fwd : ∀ (ps : List (T2 Int (List Int))) (pre : List Int) (parts : List (T2 Int (List Int))) (f : Nat), ps.length < f → parts.length + ps.length ≤ 1000 → (∀ p ∈ ps, p.b.length ≤ 65535) → m_u_split_parts_w1 (pre ++ ps.flatMap encP) m_u_split_parts_k3 f (parts, (pre.length : Int)) = .ok (parts ++ ps)
  | [], pre, parts, f, h, _, _ => by
    obtain ⟨f, rfl⟩ : ∃ k, f = k + 1 := ⟨f - 1, by simp at h; omega⟩
    rw [w1_end _ _ _ _ (by simp), List.append_nil]
  | p :: ps, pre, parts, f, h, hp, hc => by
    obtain ⟨f, rfl⟩ : ∃ k, f = k + 1 := ⟨f - 1, by simp at h; omega⟩
    rw [List.length_cons] at h hp
    have pc := hc p List.mem_cons_self
    have ll := lenF_len (p.b.length : Int)
    have dl : (pre ++ (p :: ps).flatMap encP) = (pre ++ [p.a]) ++ lenF (p.b.length : Int) ++ (p.b ++ ps.flatMap encP) := by
      rw [List.flatMap_cons]
      show pre ++ (p.a :: (lenF (p.b.length : Int) ++ p.b) ++ _) = _
      simp
    have dl2 : (pre ++ (p :: ps).flatMap encP) = (pre ++ [p.a] ++ lenF (p.b.length : Int)) ++ p.b ++ ps.flatMap encP := by rw [dl]; simp
    have dl3 : (pre ++ (p :: ps).flatMap encP) = (pre ++ encP p) ++ ps.flatMap encP := by rw [List.flatMap_cons, List.append_assoc]
    have dlen : pre.length + 1 + (lenF (p.b.length : Int)).length + p.b.length ≤ (pre ++ (p :: ps).flatMap encP).length := by
      rw [dl2]; simp only [List.length_append, List.length_singleton]; omega
    have r := rl_ok (pre ++ [p.a]) (p.b ++ ps.flatMap encP) (s := (p.b.length : Int)) (by omega) (by omega)
    rw [← dl, List.length_append, List.length_singleton] at r
    have mc := mid_cut (pre ++ [p.a] ++ lenF (p.b.length : Int)) p.b (ps.flatMap encP)
    rw [← dl2] at mc
    have e0 : (pre ++ [p.a] ++ lenF (p.b.length : Int)).length = pre.length + 1 + (lenF (p.b.length : Int)).length := by simp only [List.length_append, List.length_singleton]
    rw [e0] at mc
    have ix : idx (pre ++ (p :: ps).flatMap encP) (pre.length : Int) = .ok p.a := idx_nat (by rw [dl]; simp)
    rw [w1_step _ _ _ _ _ (by omega) (by omega), show (pre.length : Int) + 1 = ((pre.length + 1 : Nat) : Int) by omega, r, Res.bind_ok]
    dsimp only
    rw [if_neg (by omega), ix, Res.bind_ok, show ((pre.length + 1 + (lenF (p.b.length : Int)).length : Nat) : Int) + (p.b.length : Int) = ((pre.length + 1 + (lenF (p.b.length : Int)).length + p.b.length : Nat) : Int) by omega, mc]
    have ih := sp_fwd ps (pre ++ encP p) (parts ++ [p]) f (by omega) (by rw [List.length_append, List.length_singleton]; omega) fun x hx => hc x (List.mem_cons_of_mem _ hx)
    have e1 : (pre ++ encP p).length = pre.length + 1 + (lenF (p.b.length : Int)).length + p.b.length := by
      rw [List.length_append]
      show pre.length + (p.a :: (lenF (p.b.length : Int) ++ p.b)).length = _
      rw [List.length_cons, List.length_append]; omega
    rw [e1, ← dl3, List.append_assoc] at ih
    exact ih
theorem split_fwd (ps : List (T2 Int (List Int))) (h : ps.length ≤ 100) (hc : ∀ p ∈ ps, p.b.length ≤ 65535) : m_u_split_parts (ps.flatMap encP) = .ok ps := by
  have l : ∀ qs : List (T2 Int (List Int)), qs.length ≤ (qs.flatMap encP).length := by
    intro qs
    induction qs with
    | nil => exact Nat.le_refl _
    | cons q r ih =>
      rw [List.flatMap_cons, List.length_append, List.length_cons]
      have : 1 ≤ (encP q).length := by show 1 ≤ (encF q.a q.b).length; have := encF_len q.a q.b; omega
      omega
  have := l ps
  exact sp_fwd ps [] [] ((ps.flatMap encP).length + 1) (by omega) (by rw [List.length_nil]; omega) hc

/-! ### numbers and pairs read -/
theorem num_inv {c : List Int} (hb : Byt c) (hl : c.length ≤ 4000) : m_u_number c = .exc "Malformed" ∨ ∃ v, m_u_number c = .ok v ∧ 0 ≤ v ∧ Builtin.Int.intBits v ≤ 520 ∧ conF v = c := by
  unfold m_u_number
  rw [Res.bind_ok]
  by_cases l : (66 : Int) < (c.length : Int)
  · rw [decide_eq_true l]; exact .inl rfl
  · rw [decide_eq_false l, cond_false, big_ok hb (by omega), Res.bind_ok]
    have v0 := fold_nn c 0 (by decide) hb
    generalize c.foldl fb 0 = v at *
    by_cases b : (520 : Int) < ((Builtin.Int.intBits v : Nat) : Int)
    · rw [decide_eq_true b]; exact .inl rfl
    · rw [decide_eq_false b, cond_false, nc_ok v0 (by omega), Res.bind_ok, Res.need_pos (And.intro (okq_ints _) (okq_ints _)), Res.bind_ok, pyEq_ints]
      show (cond (!decide (conF v = c)) _ _ = _) ∨ ∃ w, cond (!decide (conF v = c)) _ _ = _ ∧ _
      by_cases e : conF v = c
      · rw [decide_eq_true e]; exact .inr ⟨v, rfl, v0, by omega, e⟩
      · rw [decide_eq_false e]; exact .inl rfl
theorem num_fwd {v : Int} (h0 : 0 ≤ v) (h : Builtin.Int.intBits v ≤ 520) : m_u_number (conF v) = .ok v := by
  have l := conF_len v
  unfold m_u_number
  rw [Res.bind_ok, decide_eq_false (by omega), cond_false, big_ok (conF_byt v) (by omega), conF_val h0, Res.bind_ok, decide_eq_false (by omega), cond_false, nc_ok h0 h, Res.bind_ok, Res.need_pos (And.intro (okq_ints _) (okq_ints _)), Res.bind_ok, pyEq_ints]
  rw [decide_eq_true (show (dg (Builtin.Int.intBits v / 8 + 1) v).reverse = conF v from rfl)]; rfl
theorem encF_byt {t : Int} {c : List Int} (t0 : 0 ≤ t) (t1 : t ≤ 255) (hb : Byt c) (hl : c.length ≤ 65535) : Byt (encF t c) := by
  intro d hd
  rcases List.mem_cons.mp hd with rfl | hd
  · exact ⟨t0, t1⟩
  rcases List.mem_append.mp hd with hd | hd
  · unfold lenF at hd
    split at hd
    · cases List.mem_singleton.mp hd; omega
    · split at hd
      · rcases List.mem_cons.mp hd with rfl | hd
        · omega
        · cases List.mem_singleton.mp hd; omega
      · rcases List.mem_cons.mp hd with rfl | hd
        · omega
        · rcases List.mem_cons.mp hd with rfl | hd
          · omega
          · cases List.mem_singleton.mp hd; omega
  · exact hb d hd
theorem numF_byt {v : Int} (h : Builtin.Int.intBits v ≤ 520) : Byt (numF v) := encF_byt (by decide) (by decide) (conF_byt v) (by rw [conF_len]; omega)
/-! ### the law's own forms -/
theorem lfm_loop (k : List Int × Int → Res (List Int)) : ∀ (ks : List Int) (c : List Int) (n : Int), 0 ≤ n → n < 256 ^ ks.length → ks ≠ [] → c.length + ks.length ≤ 1000 → ∃ m : Nat, 1 ≤ m ∧ m ≤ ks.length ∧ n < 256 ^ m ∧ (m = 1 ∨ 256 ^ (m - 1) ≤ n) ∧ m_u_law_form_l1 k ks (c, n) = k ((dg m n).reverse ++ c, 0)
  | [], _, _, _, _, h, _ => absurd rfl h
  | x :: r, c, n, n0, n1, _, hl => by
    rw [List.length_cons] at hl
    rw [m_u_law_form_l1]
    simp only [Res.bind_ok]
    rw [Res.need_pos (by rw [List.length_singleton]; omega), Res.bind_ok]
    by_cases z : n / 256 = 0
    · rw [decide_eq_true z, cond_true, z]
      refine ⟨1, by omega, by rw [List.length_cons]; omega, by rw [Int.pow_one]; omega, .inl rfl, ?_⟩
      rfl
    · rw [decide_eq_false z, cond_false]
      have n2 : n / 256 < 256 ^ r.length := by
        rw [List.length_cons, Int.pow_succ] at n1
        exact Int.ediv_lt_of_lt_mul (by decide) n1
      have rn : r ≠ [] := by
        rintro rfl
        rw [List.length_nil, Int.pow_zero] at n2
        omega
      obtain ⟨m, m1, m2, m3, m4, e⟩ := lfm_loop k r ([n % 256] ++ c) (n / 256) (by omega) n2 rn (by rw [List.length_append, List.length_singleton]; omega)
      refine ⟨m + 1, by omega, by rw [List.length_cons]; omega, ?_, .inr ?_, ?_⟩
      · rw [Int.pow_succ]; omega
      · rw [Nat.add_sub_cancel]
        rcases m4 with rfl | m4
        · rw [Int.pow_one]; omega
        · have : (256 : Int) ^ m = 256 ^ (m - 1) * 256 := by rw [← Int.pow_succ]; congr 1; omega
          omega
      · rw [e]
        congr 2
        rw [dg, List.reverse_cons, List.append_assoc]
theorem dg_snoc : ∀ (m : Nat) (n : Int), dg (m + 1) n = dg m n ++ [n / 256 ^ m % 256]
  | 0, n => by rw [Int.pow_zero, Int.ediv_one]; rfl
  | m + 1, n => by
    have ih := dg_snoc m (n / 256)
    show n % 256 :: dg (m + 1) (n / 256) = (n % 256 :: dg m (n / 256)) ++ _
    rw [ih, Int.ediv_ediv_of_nonneg (by decide), ← Int.pow_succ']
    rfl
theorem bits_in2 {n : Int} {a b : Nat} (h0 : 2 ^ a ≤ n) (h1 : n < 2 ^ b) : a < Builtin.Int.intBits n ∧ Builtin.Int.intBits n ≤ b := by
  have p : (0 : Int) < 2 ^ a := Int.pow_pos (by decide)
  obtain ⟨k, rfl⟩ := Int.eq_ofNat_of_zero_le (show 0 ≤ n by omega)
  rw [← PySem.W.kbt_cast] at h0 h1
  exact ⟨bits_le (by omega), le_ibits (by rw [Int.natAbs_natCast]; omega)⟩
theorem p256p (m : Nat) : (256 : Int) ^ m = 2 ^ (8 * m) := by rw [Int.pow_mul]; rfl
theorem lform2_ok {n : Int} (n0 : 0 ≤ n) (h : Builtin.Int.intBits n ≤ 520) : m_u_law_form n = .ok (numF n) := by
  have hl : (pyRange 0 90).length = 90 := by rw [pyRange_len]; rfl
  have lt := bits_lt2 n0 h
  unfold m_u_law_form
  simp only [Res.bind_ok]
  rw [Res.need_pos ⟨by decide, by decide⟩, Res.bind_ok]
  generalize pyRange 0 90 = ks at *
  obtain ⟨m, m1, m2, m3, m4, e⟩ := lfm_loop m_u_law_form_k3 ks [] n n0 (by
    rw [hl, p256p]
    have := Nat.pow_le_pow_right (n := 2) (by decide) (show 520 ≤ 8 * 90 by decide)
    rw [← PySem.W.kbt_cast] at lt ⊢
    omega) (fun z => by rw [z] at hl; cases hl) (by rw [hl]; decide)
  rw [e, List.append_nil]
  have k2 : m_u_law_form_k2 (conF n) = .ok (numF n) := by
    have l := conF_len n
    have l3 := lenF_len ((conF n).length : Int)
    unfold m_u_law_form_k2
    rw [ll_ok, Res.bind_ok, Res.need_pos (by rw [List.length_singleton]; omega), Res.bind_ok, Res.need_pos (by rw [List.length_append, List.length_singleton]; omega)]
    rfl
  obtain ⟨j, rfl⟩ : ∃ j, m = j + 1 := ⟨m - 1, by omega⟩
  have pj : (0 : Int) < 256 ^ j := Int.pow_pos (by decide)
  rw [Int.pow_succ] at m3
  rw [Nat.add_sub_cancel] at m4
  have t0 : 0 ≤ n / 256 ^ j := Int.ediv_nonneg n0 (by omega)
  have t1 : n / 256 ^ j < 256 := Int.ediv_lt_of_lt_mul pj (by omega)
  have top : (dg (j + 1) n).reverse = (n / 256 ^ j) :: (dg j n).reverse := by
    rw [dg_snoc, List.reverse_append, Int.emod_eq_of_lt t0 t1]; rfl
  unfold m_u_law_form_k3
  dsimp only
  rw [top, show idx ((n / 256 ^ j) :: (dg j n).reverse) (0 : Int) = .ok (n / 256 ^ j) from idx_int (by decide) rfl, Res.bind_ok, Res.bind_ok, ← top]
  have pw : ∀ a b : Nat, a ≤ b → (2 : Int) ^ a ≤ 2 ^ b := fun a b hab => by
    have := Nat.pow_le_pow_right (n := 2) (by decide) hab
    rw [← PySem.W.kbt_cast, ← PySem.W.kbt_cast]; omega
  by_cases c : (128 : Int) ≤ n / 256 ^ j
  · have lo : 128 * 256 ^ j ≤ n := by
      have := Int.mul_le_of_le_ediv pj c
      omega
    have b := bits_in2 (n := n) (a := 8 * j + 7) (b := 8 * j + 8) (by
      rw [Int.pow_add, ← p256p]
      show 256 ^ j * 128 ≤ n
      omega) (by
      rw [Int.pow_add, ← p256p]
      show n < 256 ^ j * 256
      omega)
    have cf : conF n = [0] ++ (dg (j + 1) n).reverse := by
      unfold conF
      rw [show Builtin.Int.intBits n / 8 + 1 = j + 1 + 1 by omega, dg_snoc (j + 1), List.reverse_append, Int.ediv_eq_zero_of_lt n0 (by rw [Int.pow_succ]; omega)]
      rfl
    rw [decide_eq_true c, cond_true, Res.need_pos (by rw [List.length_reverse, dg_len, List.length_singleton]; omega), Res.bind_ok, ← cf]
    exact k2
  · have hi : n < 128 * 256 ^ j := by
      have := Int.lt_mul_of_ediv_lt pj (show n / 256 ^ j < 128 by omega)
      omega
    have b1 : Builtin.Int.intBits n ≤ 8 * j + 7 := by
      obtain ⟨k, rfl⟩ := Int.eq_ofNat_of_zero_le n0
      refine le_ibits ?_
      rw [Int.natAbs_natCast]
      have : ((k : Nat) : Int) < 2 ^ (8 * j + 7) := by
        rw [Int.pow_add, ← p256p]
        show _ < 256 ^ j * 128
        omega
      rw [← PySem.W.kbt_cast] at this
      omega
    have b2 : 8 * j ≤ Builtin.Int.intBits n := by
      rcases m4 with z | m4
      · omega
      · by_cases z : j = 0
        · omega
        · obtain ⟨k, rfl⟩ := Int.eq_ofNat_of_zero_le n0
          rw [p256p, ← PySem.W.kbt_cast] at m4
          have := bits_le (p := k) (b := 8 * j) (by omega)
          omega
    have cf : conF n = (dg (j + 1) n).reverse := by
      unfold conF
      rw [show Builtin.Int.intBits n / 8 + 1 = j + 1 by omega]
    rw [decide_eq_false c, cond_false, ← cf]
    exact k2
/-! ### k30: trees that are read -/
inductive Td : Nat → D → Prop
  | num {k : Nat} {v : Int} : 0 ≤ v → Builtin.Int.intBits v ≤ 520 → Td k (D.int v)
  | tup {k : Nat} {ds : List D} : ds.length ≤ 4000 → (∀ d ∈ ds, Td k d) → Td (k + 1) (D.tup ds)
theorem compL_or {α β : Type} {el : α → Res β} {R : β → Prop} : ∀ xs : List α, (∀ x ∈ xs, el x = .exc "Malformed" ∨ ∃ y, el x = .ok y ∧ R y) → compL (fun _ => Res.ok true) el xs = .exc "Malformed" ∨ ∃ ys, compL (fun _ => Res.ok true) el xs = .ok ys ∧ (∀ y ∈ ys, R y) ∧ ys.length = xs.length
  | [], _ => .inr ⟨[], rfl, (fun _ h => nomatch h), rfl⟩
  | x :: r, h => by
    have st : compL (fun _ => Res.ok true) el (x :: r) = (el x).bind fun y => (compL (fun _ => Res.ok true) el r).bind fun ys => .ok (y :: ys) := rfl
    rw [st]
    rcases h x List.mem_cons_self with e | ⟨y, e, ry⟩
    · rw [e]; exact .inl rfl
    · rw [e, Res.bind_ok]
      rcases compL_or r fun z hz => h z (List.mem_cons_of_mem _ hz) with e2 | ⟨ys, e2, r2, l2⟩
      · rw [e2]; exact .inl rfl
      · rw [e2]
        refine .inr ⟨y :: ys, rfl, fun z hz => ?_, by rw [List.length_cons, List.length_cons, l2]⟩
        rcases List.mem_cons.mp hz with rfl | hz
        · exact ry
        · exact r2 z hz
theorem tup_tu (ds : List D) : (toD (Tu.mk ds) : D) = D.tup ds := by
  show D.tup (ds.map fun x => x) = _
  rw [List.map_id']
theorem tree_inv : ∀ (f lv : Nat) (t : Int) (c : List Int), lv < f → Byt c → c.length ≤ 2000 → m_u_tree_value f t c (lv : Int) = .exc "Malformed" ∨ ∃ d, m_u_tree_value f t c (lv : Int) = .ok d ∧ Td lv d ∧ ((t = 2 ∧ ∃ v, d = D.int v ∧ 0 ≤ v ∧ Builtin.Int.intBits v ≤ 520 ∧ conF v = c) ∨ (t = 48 ∧ ∃ ds, d = D.tup ds))
  | 0, _, _, _, h, _, _ => absurd h (Nat.not_lt_zero _)
  | f + 1, lv, t, c, h, hb, hl => by
    show m_u_tree_value_b (m_u_tree_value f) t c (lv : Int) = _ ∨ ∃ d, m_u_tree_value_b (m_u_tree_value f) t c (lv : Int) = _ ∧ _
    unfold m_u_tree_value_b
    rw [Res.bind_ok]
    by_cases t2 : t = 2
    · rw [decide_eq_true t2, cond_true]
      rcases num_inv hb (by omega) with e | ⟨v, e, v0, v1, v2⟩
      · rw [e]; exact .inl rfl
      · rw [e]
        exact .inr ⟨D.int v, rfl, .num v0 v1, .inl ⟨t2, v, rfl, v0, v1, v2⟩⟩
    · rw [decide_eq_false t2, cond_false, Res.bind_ok]
      by_cases t48 : t = 48
      · rw [decide_eq_true t48, Bool.not_true, cond_false, Res.bind_ok]
        by_cases z : (lv : Int) = 0
        · rw [decide_eq_true z]; exact .inl rfl
        · rw [decide_eq_false z, cond_false]
          obtain ⟨l, rfl⟩ : ∃ l, lv = l + 1 := ⟨lv - 1, by omega⟩
          rcases split_inv hb (by omega) with e | ⟨ps, e, d, m⟩
          · rw [e]; exact .inl rfl
          · have pl : ps.length ≤ c.length := by
              rw [d]
              clear d m e
              induction ps with
              | nil => exact Nat.le_refl _
              | cons q r ih =>
                rw [List.flatMap_cons, List.length_append, List.length_cons]
                have : 1 ≤ (encP q).length := by show 1 ≤ (encF q.a q.b).length; have := encF_len q.a q.b; omega
                omega
            rw [e, Res.bind_ok, Res.need_pos (by omega), show ((l + 1 : Nat) : Int) - 1 = (l : Int) by omega]
            have all : ∀ p ∈ ps, m_u_tree_value f p.a p.b (l : Int) = .exc "Malformed" ∨ ∃ y, m_u_tree_value f p.a p.b (l : Int) = .ok y ∧ Td l y := fun p hp => by
              obtain ⟨pb, pl2⟩ := m p hp
              rcases tree_inv f l p.a p.b (by omega) pb (by omega) with e | ⟨y, e, ty, _⟩
              · exact .inl e
              · exact .inr ⟨y, e, ty⟩
            rcases compL_or (el := fun (p : T2 Int (List Int)) => m_u_tree_value f p.a p.b (l : Int)) ps all with e3 | ⟨ds, e3, r3, l3⟩
            · rw [e3]; exact .inl rfl
            · rw [e3]
              refine .inr ⟨D.tup ds, ?_, .tup (by omega) r3, .inr ⟨t48, ds, rfl⟩⟩
              rw [Res.bind_ok, Res.bind_ok, tup_tu]
      · rw [decide_eq_false t48]; exact .inl rfl
theorem compL_ex {α β : Type} {el : α → Res β} : ∀ xs : List α, (∀ x ∈ xs, ∃ y, el x = .ok y) → ∃ ys, compL (fun _ => Res.ok true) (fun x => (el x).noexc) xs = .ok ys
  | [], _ => ⟨[], rfl⟩
  | x :: r, h => by
    obtain ⟨y, e⟩ := h x List.mem_cons_self
    obtain ⟨ys, e2⟩ := compL_ex r fun z hz => h z (List.mem_cons_of_mem _ hz)
    refine ⟨y :: ys, ?_⟩
    have st : compL (fun _ => Res.ok true) (fun x => (el x).noexc) (x :: r) = ((el x).noexc).bind fun y => (compL (fun _ => Res.ok true) (fun x => (el x).noexc) r).bind fun ys => .ok (y :: ys) := rfl
    rw [st, e, e2]; rfl
theorem pc_ok : ∀ (f k : Nat) (d : D), k < f → Td k d → ∃ n, m_u_part_count f d = .ok n
  | 0, _, _, h, _ => absurd h (Nat.not_lt_zero _)
  | f + 1, k, d, h, td => by
    show ∃ n, m_u_part_count_b (m_u_part_count f) d = .ok n
    unfold m_u_part_count_b
    cases td with
    | num v0 v1 => exact ⟨1, by rw [Res.need_pos (by rfl)]; rfl⟩
    | @tup k ds l a =>
      have pt : (toD (D.tup ds)).plain = true := rfl
      have it : isI "tuple" (toD (D.tup ds)) = true := rfl
      have au : D.asTu (D.tup ds) = .ok ⟨ds⟩ := rfl
      obtain ⟨ys, e⟩ := compL_ex (el := fun x => m_u_part_count f x) ds fun x hx => pc_ok f k x (by omega) (a x hx)
      simp only [Res.need_pos pt, it, Res.bind_ok, Bool.not_true, cond_false, au, Res.need_pos (show ds.length ≤ 16777216 by omega)]
      rw [e]
      exact ⟨_, rfl⟩
theorem rt_inv {data : List Int} (hb : Byt data) (hl : data.length ≤ 1000) : m_read_tree (toD data) = .exc "Malformed" ∨ ∃ d, m_read_tree (toD data) = .ok d ∧ Td 8 d ∧ ((∃ v, d = D.int v ∧ 0 ≤ v ∧ Builtin.Int.intBits v ≤ 520 ∧ data = numF v) ∨ (∃ ds, d = D.tup ds) ∧ ∃ c, data = encF 48 c) := by
  have by_ := bytes_ok hb (by omega)
  have one : m_u_only_part (toD data) = .exc "Malformed" ∨ ∃ t c, m_u_only_part (toD data) = .ok (T2.mk t c) ∧ data = encF t c ∧ Byt c ∧ c.length ≤ data.length := by
    unfold m_u_only_part
    simp only [by_, Res.bind_ok, Bool.not_true, cond_false, asInts_toD]
    rcases split_inv hb (by omega) with e | ⟨ps, e, d, m⟩
    · rw [e]; exact .inl rfl
    · rw [e, Res.bind_ok]
      match ps, d, m with
      | [], _, _ => exact .inl rfl
      | [p], d, m =>
        refine .inr ⟨p.a, p.b, rfl, ?_, (m p List.mem_cons_self).1, (m p List.mem_cons_self).2⟩
        rw [d, List.flatMap_cons]
        show encP p ++ [] = _
        rw [List.append_nil]; rfl
      | p :: q :: r, _, _ =>
        rw [decide_eq_false (by rw [List.length_cons, List.length_cons]; omega)]; exact .inl rfl
  unfold m_read_tree
  rcases one with e | ⟨t, c, e, d, cb, cl⟩
  · rw [e]; exact .inl rfl
  · rw [e, Res.bind_ok]
    dsimp only
    rcases tree_inv 9 8 t c (by decide) cb (by omega) with e2 | ⟨y, e2, ty, q⟩
    · rw [show (8 : Int) = ((8 : Nat) : Int) from rfl, e2]; exact .inl rfl
    · rw [show (8 : Int) = ((8 : Nat) : Int) from rfl, e2, Res.bind_ok]
      obtain ⟨n, en⟩ := pc_ok 10 8 y (by decide) ty
      rw [en, Res.bind_ok, Res.bind_ok]
      by_cases big : (64 : Int) < n
      · rw [decide_eq_true big]; exact .inl rfl
      · rw [decide_eq_false big, cond_false]
        refine .inr ⟨y, rfl, ty, ?_⟩
        rcases q with ⟨t2, v, ev, v0, v1, v2⟩ | ⟨t48, ds, ed⟩
        · exact .inl ⟨v, ev, v0, v1, by rw [d, t2, ← v2]; rfl⟩
        · exact .inr ⟨⟨ds, ed⟩, c, by rw [d, t48]⟩
theorem rt_fwd {v : Int} (v0 : 0 ≤ v) (v1 : Builtin.Int.intBits v ≤ 520) : m_read_tree (toD (numF v)) = .ok (D.int v) := by
  have hb := numF_byt v1
  have hl := numF_len v1
  have by_ := bytes_ok hb (by omega)
  have sp1 : m_u_split_parts (numF v) = .ok [T2.mk 2 (conF v)] := by
    have := split_fwd [T2.mk 2 (conF v)] (by show 1 ≤ 100; decide) (fun p hp => by
      cases List.mem_singleton.mp hp
      show (conF v).length ≤ _
      rw [conF_len]; omega)
    rw [List.flatMap_cons] at this
    have e : encP (T2.mk 2 (conF v)) ++ ([] : List (T2 Int (List Int))).flatMap encP = numF v := List.append_nil _
    rw [e] at this
    exact this
  have one : m_u_only_part (toD (numF v)) = .ok (T2.mk 2 (conF v)) := by
    unfold m_u_only_part
    simp only [by_, Res.bind_ok, Bool.not_true, cond_false, asInts_toD, sp1]
    rfl
  have tv : m_u_tree_value 9 2 (conF v) 8 = .ok (D.int v) := by
    show m_u_tree_value_b (m_u_tree_value 8) 2 (conF v) 8 = _
    unfold m_u_tree_value_b
    rw [Res.bind_ok, show decide ((2 : Int) = 2) = true from rfl, cond_true, num_fwd v0 v1]; rfl
  have pc : m_u_part_count 10 (D.int v) = .ok 1 := by
    show m_u_part_count_b (m_u_part_count 9) (D.int v) = _
    unfold m_u_part_count_b
    rw [Res.need_pos (by rfl)]; rfl
  unfold m_read_tree
  rw [one, Res.bind_ok]
  dsimp only
  rw [tv, Res.bind_ok, pc]
  rfl

theorem islist_ok (xs : List Int) : m_u_law_is_list (toD xs) xs = .ok true := by
  have q : ∀ (k : Unit → Res Bool), k () = .ok true → ∀ ys : List Int, m_u_law_is_list_l2 k (List.zipWith T2.mk (ys.map D.int) ys) () = .ok true := by
    intro k hk ys
    induction ys with
    | nil => rw [List.map_nil, List.zipWith_nil_left, m_u_law_is_list_l2]; exact hk
    | cons y r ih =>
      rw [List.map_cons, List.zipWith_cons_cons, m_u_law_is_list_l2]
      have p1 : (toD (D.int y)).plain = true := rfl
      have h1 : isI "int" (toD (D.int y)) = true := rfl
      have h2 : isI "bool" (toD (D.int y)) = false := rfl
      have ok : (toD (D.int y)).okq = true ∧ (toD y).okq = true := ⟨rfl, rfl⟩
      have e : pyEq (toD (D.int y)) (toD y) = true := pyEq_self (x := D.int y) rfl
      unfold m_u_law_integer
      simp only [Res.need_pos p1, Res.bind_ok, h1, h2, cond_true, Bool.not_false, Bool.not_true, cond_false, Res.need_pos ok, e]
      exact ih
  have p1 : (toD (toD xs : D)).plain = true := rfl
  have h1 : isI "list" (toD (toD xs : D)) = true := rfl
  have l1 : D.lenR (toD xs) = .ok (xs.length : Int) := by
    show Res.ok (((xs.map D.int).length : Nat) : Int) = _
    rw [List.length_map]
  unfold m_u_law_is_list
  simp only [Res.need_pos p1, Res.bind_ok, h1, Bool.not_true, cond_false, l1, decide_true, by_map, q m_u_law_is_list_k3 rfl xs]

theorem td_q : ∀ {k : Nat} {d : D}, Td k d → d.flat = true ∧ d.py.canLay0 = true ∧ d.py.depth ≤ k := by
  intro k d h
  induction h with
  | num v0 v1 => exact ⟨rfl, rfl, Nat.zero_le _⟩
  | @tup k ds l a ih =>
    have all : ∀ xs : List D, (∀ d ∈ xs, d.flat = true ∧ d.py.canLay0 = true ∧ d.py.depth ≤ k) → flatL xs = true ∧ PyData.canLayAll0 (pyL xs) = true ∧ PyData.depthAll (pyL xs) ≤ k := by
      intro xs
      induction xs with
      | nil => intro _; exact ⟨rfl, rfl, Nat.zero_le _⟩
      | cons x r ihr =>
        intro h
        obtain ⟨a1, a2, a3⟩ := h x List.mem_cons_self
        obtain ⟨b1, b2, b3⟩ := ihr fun z hz => h z (List.mem_cons_of_mem _ hz)
        refine ⟨?_, ?_, ?_⟩
        · show (x.flat && flatL r) = true
          rw [a1, b1]; rfl
        · show (PyData.canLay0 x.py && PyData.canLayAll0 (pyL r)) = true
          rw [a2, b2]; rfl
        · show max (PyData.depth x.py) (PyData.depthAll (pyL r)) ≤ k
          omega
    obtain ⟨c1, c2, c3⟩ := all ds ih
    exact ⟨c1, c2, Nat.succ_le_succ c3⟩
theorem td_okq {d : D} (h : Td 8 d) : (toD d).okq = true := by
  obtain ⟨a, b, c⟩ := td_q h
  show (d.flat && (PyData.canLay0 d.py && decide (d.py.depth ≤ 64))) = true
  rw [a, b, decide_eq_true (show d.py.depth ≤ 64 by omega)]; rfl
theorem td_plain {k : Nat} {d : D} (h : Td k d) : (toD d).plain = true := by cases h <;> rfl
theorem isint_tup (ds : List D) : m_u_law_integer (D.tup ds) = .ok false := by
  unfold m_u_law_integer
  rw [Res.need_pos (by rfl)]; rfl
theorem isint_int (v : Int) : m_u_law_integer (D.int v) = .ok true := by
  unfold m_u_law_integer
  rw [Res.need_pos (by rfl), Res.bind_ok, show isI "int" (toD (D.int v)) = true from rfl, cond_true, Res.need_pos (by rfl)]; rfl
/-! ### what is told -/
abbrev fF : D := toD (T2.mk ("refused" : Str) ("form" : Str))
abbrev fR : D := toD (T2.mk ("refused" : Str) ("range" : Str))
theorem qF : (toD fF).okq = true ∧ pyEq (toD fF) (toD (T2.mk ("refused" : Str) ("form" : Str))) = true ∧ (toD (T2.mk ("refused" : Str) ("form" : Str))).okq = true ∧ fF.nob = true ∧ (toD fF).plain = true ∧ isI "tuple" (toD fF) = true := by decide +kernel
theorem qR : (toD fR).okq = true ∧ pyEq (toD fR) (toD (T2.mk ("refused" : Str) ("range" : Str))) = true ∧ (toD (T2.mk ("refused" : Str) ("range" : Str))).okq = true := by decide +kernel
theorem tl_ok {w a : Int} {d e : D} (h : m_u_law_call w d a = .ok e) : m_u_law_told w d a = .ok e := by unfold m_u_law_told; rw [h]; rfl
theorem tl_f {w a : Int} {d : D} (h : m_u_law_call w d a = .exc "Malformed") : m_u_law_told w d a = .ok fF := by unfold m_u_law_told; rw [h]; rfl
theorem tl_r {w a : Int} {d : D} (h : m_u_law_call w d a = .exc "OutOfRange") : m_u_law_told w d a = .ok fR := by unfold m_u_law_told; rw [h]; rfl
theorem c0 (s a : Int) : m_u_law_call 0 (toD s) a = (m_write_length s).bind fun x => .ok (toD x) := by
  unfold m_u_law_call
  rw [Res.bind_ok, show decide ((0 : Int) = 0) = true from rfl, cond_true]; rfl
theorem c1 (xs : List Int) (a : Int) : m_u_law_call 1 (toD xs) a = (m_read_length xs a).bind fun x => .ok (toD x) := by
  unfold m_u_law_call
  rw [Res.bind_ok, show decide ((1 : Int) = 0) = false from rfl, cond_false, Res.bind_ok, show decide ((1 : Int) = 1) = true from rfl, cond_true]
  simp only [asInts_toD, Res.bind_ok]
theorem c2 (s a : Int) : m_u_law_call 2 (toD s) a = (m_write_number s).bind fun x => .ok (toD x) := by
  unfold m_u_law_call
  rw [Res.bind_ok, show decide ((2 : Int) = 0) = false from rfl, cond_false, Res.bind_ok, show decide ((2 : Int) = 1) = false from rfl, cond_false, Res.bind_ok, show decide ((2 : Int) = 2) = true from rfl, cond_true]; rfl
theorem c3 (d : D) (a : Int) : m_u_law_call 3 d a = m_read_tree d := by
  unfold m_u_law_call
  rw [Res.bind_ok, show decide ((3 : Int) = 0) = false from rfl, cond_false, Res.bind_ok, show decide ((3 : Int) = 1) = false from rfl, cond_false, Res.bind_ok, show decide ((3 : Int) = 2) = false from rfl, cond_false]
theorem wnum_bad {n : Int} (h : n < 0 ∨ 520 < Builtin.Int.intBits n) : m_write_number n = .exc "OutOfRange" := by
  unfold m_write_number
  by_cases c : n < 0
  · rw [decide_eq_true c]; rfl
  · rw [decide_eq_false c, cond_false, Res.bind_ok, decide_eq_true (by omega)]; rfl
/-! ### lengths -/
theorem dl_step (data : List Int) (j e : Nat) (k : Unit → Res D) (es : List Int) (hj : j ≤ data.length) (he : 1 ≤ e ∧ e ≤ 3) : m_u_law_due_length_l1 data (j : Int) k (((j + e : Nat) : Int) :: es) () = if ((data.drop j).take e).length = e ∧ (data.drop j).take e = lenF (if e = 3 then 256 * ((data.drop j).take e).getD 1 0 + ((data.drop j).take e).getD 2 0 else ((data.drop j).take e).getD (e - 1) 0) then .ok (toD (T2.mk (if e = 3 then 256 * ((data.drop j).take e).getD 1 0 + ((data.drop j).take e).getD 2 0 else ((data.drop j).take e).getD (e - 1) 0) ((j + e : Nat) : Int))) else m_u_law_due_length_l1 data (j : Int) k es () := by
  rw [m_u_law_due_length_l1]
  simp only [Res.bind_ok, cut_sat data j (j + e) hj, show j + e - j = e by omega]
  generalize (data.drop j).take e = part
  by_cases l : part.length = e
  · rw [decide_eq_true (show (part.length : Int) = ((j + e : Nat) : Int) - (j : Int) by omega), Bool.not_true, cond_false]
    have ix : ∀ i : Nat, i < e → idx part (i : Int) = .ok (part.getD i 0) := fun i hi => idx_nat (by
      rw [List.getElem?_eq_getElem (by omega), List.getD_eq_getElem?_getD, List.getElem?_eq_getElem (by omega)]; rfl)
    have k3 : ∀ s : Int, m_u_law_due_length_k3 ((j + e : Nat) : Int) part (m_u_law_due_length_l1 data (j : Int) k es) s = if part = lenF s then .ok (toD (T2.mk s ((j + e : Nat) : Int))) else m_u_law_due_length_l1 data (j : Int) k es () := by
      intro s
      unfold m_u_law_due_length_k3
      rw [ll_ok, Res.bind_ok, Res.need_pos (And.intro (okq_ints _) (okq_ints _)), Res.bind_ok, pyEq_ints]
      by_cases c : part = lenF s
      · rw [decide_eq_true c, if_pos c]; rfl
      · rw [decide_eq_false c, if_neg c]; rfl
    rw [show (part.length : Int) - 1 = ((e - 1 : Nat) : Int) by omega, ix (e - 1) (by omega), Res.bind_ok]
    by_cases c3 : e = 3
    · subst c3
      rw [decide_eq_true (show (part.length : Int) = 3 by omega), cond_true, show (1 : Int) = ((1 : Nat) : Int) from rfl, show (2 : Int) = ((2 : Nat) : Int) from rfl, ix 1 (by omega), ix 2 (by omega)]
      simp only [Res.bind_ok]
      rw [k3, if_pos True.intro]
      by_cases q : part = lenF (256 * part.getD 1 0 + part.getD 2 0)
      · rw [if_pos q, if_pos ⟨l, q⟩]
      · rw [if_neg q, if_neg (fun z => q z.2)]
    · rw [decide_eq_false (show ¬ (part.length : Int) = 3 by omega), cond_false, k3, if_neg c3]
      by_cases q : part = lenF (part.getD (e - 1) 0)
      · rw [if_pos q, if_pos ⟨l, q⟩]
      · rw [if_neg q, if_neg (fun z => q z.2)]
  · rw [decide_eq_false (show ¬ (part.length : Int) = ((j + e : Nat) : Int) - (j : Int) by omega), Bool.not_false, cond_true, if_neg (fun z => l z.1)]

theorem drop_byt' {d : List Int} (h : Byt d) (k : Nat) : Byt (d.drop k) := fun x hx => h x (List.mem_of_mem_drop hx)
theorem lenF_1 {s a : Int} (h : [a] = lenF s) : a = s ∧ s < 128 := by
  unfold lenF at h
  by_cases c : s < 128
  · rw [if_pos c] at h; injection h with h; exact ⟨h, c⟩
  · rw [if_neg c] at h
    by_cases d : s < 256
    · rw [if_pos d] at h; injection h with _ h; cases h
    · rw [if_neg d] at h; injection h with _ h; cases h
theorem lenF_2 {s a b : Int} (h : [a, b] = lenF s) : a = 129 := by
  unfold lenF at h
  by_cases c : s < 128
  · rw [if_pos c] at h; injection h with _ h; cases h
  · rw [if_neg c] at h
    by_cases d : s < 256
    · rw [if_pos d] at h; injection h
    · rw [if_neg d] at h; injection h with _ h; injection h with _ h; cases h
theorem lenF_3 {s a b c : Int} (h : [a, b, c] = lenF s) : a = 130 := by
  unfold lenF at h
  by_cases e : s < 128
  · rw [if_pos e] at h; injection h with _ h; cases h
  · rw [if_neg e] at h
    by_cases d : s < 256
    · rw [if_pos d] at h; injection h with _ h; injection h with _ h; cases h
    · rw [if_neg d] at h; injection h
theorem rl_at {data r : List Int} {f : Int} {j : Nat} (hb : Byt data) (hd : data.drop j = f :: r) : m_read_length data (j : Int) = if f = 129 then (if f :: r.take 1 = lenF ((r.take 1).foldl fb 0) then .ok (T2.mk ((r.take 1).foldl fb 0) ((j + 2 : Nat) : Int)) else .exc "Malformed") else if f = 130 then (if f :: r.take 2 = lenF ((r.take 2).foldl fb 0) then .ok (T2.mk ((r.take 2).foldl fb 0) ((j + 3 : Nat) : Int)) else .exc "Malformed") else if [f] = lenF f then .ok (T2.mk f ((j + 1 : Nat) : Int)) else .exc "Malformed" := by
  have hj : j < data.length := by
    have : (data.drop j).length = (f :: r).length := by rw [hd]
    rw [List.length_drop, List.length_cons] at this; omega
  have hr : data.drop (j + 1) = r := by rw [← List.drop_drop, hd]; rfl
  have rb : Byt (f :: r) := hd ▸ drop_byt' hb j
  have f0 := rb f List.mem_cons_self
  have tkb : ∀ k, Byt (r.take k) := fun k z hz => rb z (List.mem_cons_of_mem _ (List.mem_of_mem_take hz))
  have c1 := cut_sat data j (j + 1) (by omega)
  rw [hd, show j + 1 - j = 1 by omega, show (f :: r).take 1 = [f] from rfl] at c1
  have v1 : ∀ k, k ≤ 2 → 0 ≤ (r.take k).foldl fb 0 ∧ (r.take k).foldl fb 0 ≤ 65535 := by
    intro k hk
    have b := tkb k
    have l : (r.take k).length ≤ 2 := by rw [List.length_take]; omega
    refine ⟨fold_nn _ 0 (by decide) b, ?_⟩
    match r.take k, l, b with
    | [], _, _ => decide
    | [a], _, b => have := b a List.mem_cons_self; show 0 * 256 + a ≤ _; omega
    | [a, c], _, b => have := b a List.mem_cons_self; have := b c (List.mem_cons_of_mem _ List.mem_cons_self); show (0 * 256 + a) * 256 + c ≤ _; omega
    | _ :: _ :: _ :: _, h, _ => rw [List.length_cons, List.length_cons, List.length_cons] at h; omega
  unfold m_read_length
  simp only [Res.bind_ok]
  rw [show (j : Int) + 1 = ((j + 1 : Nat) : Int) by omega, c1, show decide ((([f] : List Int).length : Int) = 0) = false from rfl, cond_false, show idx [f] (0 : Int) = .ok f from rfl, Res.bind_ok]
  have big : ∀ k : Nat, 1 ≤ k → k ≤ 2 → f = 128 + (k : Int) → (m_from_big (cutL data (some ((j + 1 : Nat) : Int)) (some (((j + 1 : Nat) : Int) + (f - 128))))).bind (fun s => m_read_length_k2 data (j : Int) (((j + 1 : Nat) : Int) + (f - 128), s)) = if f :: r.take k = lenF ((r.take k).foldl fb 0) then .ok (T2.mk ((r.take k).foldl fb 0) ((j + 1 + k : Nat) : Int)) else .exc "Malformed" := by
    intro k k1 k2 e
    have e2 : ((j + 1 : Nat) : Int) + (f - 128) = ((j + 1 + k : Nat) : Int) := by omega
    have cc := cut_sat data (j + 1) (j + 1 + k) (by omega)
    rw [hr, show j + 1 + k - (j + 1) = k by omega] at cc
    have c0 := cut_sat data j (j + 1 + k) (by omega)
    rw [hd, show j + 1 + k - j = k + 1 by omega, List.take_succ_cons] at c0
    rw [e2, cc, big_ok (tkb k) (by rw [List.length_take]; omega), Res.bind_ok, rlen_k2 (v1 k k2).1 (v1 k k2).2, c0]
  by_cases a : f = 129
  · have m : f ∈ ([129, 130] : List Int) := by rw [a]; decide
    rw [decide_eq_true m, cond_true, if_pos a]
    exact big 1 (by decide) (by decide) (by rw [a]; rfl)
  · by_cases b : f = 130
    · have m : f ∈ ([129, 130] : List Int) := by rw [b]; decide
      rw [decide_eq_true m, cond_true, if_neg a, if_pos b]
      exact big 2 (by decide) (by decide) (by rw [b]; rfl)
    · have m : ¬ f ∈ ([129, 130] : List Int) := fun z => by
        rcases List.mem_cons.mp z with z | z
        · exact a z
        · exact b (List.mem_singleton.mp z)
      rw [decide_eq_false m, cond_false, if_neg a, if_neg b, rlen_k2 f0.1 (by omega), c1]
theorem dl_eq {data r : List Int} {f : Int} {j : Nat} (hb : Byt data) (hd : data.drop j = f :: r) : ∃ d, m_u_law_told 1 (toD data) (j : Int) = .ok d ∧ m_u_law_due_length data (j : Int) = .ok d ∧ (toD d).okq = true ∧ pyEq (toD d) (toD d) = true := by
  have hj : j ≤ data.length := by
    have : (data.drop j).length = (f :: r).length := by rw [hd]
    rw [List.length_drop, List.length_cons] at this; omega
  have rl := rl_at hb hd
  have st := fun e k es he => dl_step data j e k es hj he
  rw [hd] at st
  have du : m_u_law_due_length data (j : Int) = m_u_law_due_length_l1 data (j : Int) m_u_law_due_length_k4 [((j + 1 : Nat) : Int), ((j + 2 : Nat) : Int), ((j + 3 : Nat) : Int)] () := rfl
  have okp : ∀ s k : Int, (toD (toD (T2.mk s k) : D)).okq = true ∧ pyEq (toD (toD (T2.mk s k) : D)) (toD (toD (T2.mk s k) : D)) = true := fun s k => ⟨rfl, pyEq_self (x := toD (T2.mk s k)) rfl⟩
  have fin : ∀ s k : Int, m_read_length data (j : Int) = .ok (T2.mk s k) → m_u_law_told 1 (toD data) (j : Int) = .ok (toD (T2.mk s k)) := fun s k h => tl_ok (by rw [c1, h]; rfl)
  have bad : m_read_length data (j : Int) = .exc "Malformed" → m_u_law_told 1 (toD data) (j : Int) = .ok fF := fun h => tl_f (by rw [c1, h]; rfl)
  have rb : Byt (f :: r) := hd ▸ drop_byt' hb j
  have f0 := rb f List.mem_cons_self
  rw [du, st 1 _ _ ⟨by decide, by decide⟩]
  have p1 : (f :: r).take 1 = [f] := rfl
  rw [p1, if_neg (show ¬ (1 : Nat) = 3 by decide), show ([f] : List Int).getD (1 - 1) 0 = f from rfl]
  by_cases a1 : [f] = lenF f
  · have lt := (lenF_1 a1).2
    rw [if_neg (by omega), if_neg (by omega), if_pos a1] at rl
    refine ⟨_, fin _ _ rl, if_pos ⟨rfl, a1⟩, okp _ _⟩
  · rw [if_neg (fun z => a1 z.2), st 2 _ _ ⟨by decide, by decide⟩, if_neg (show ¬ (2 : Nat) = 3 by decide)]
    match r, rb, rl, hd, st with
    | [], rb, rl, hd, st =>
      have n2 : ¬ (((f :: ([] : List Int)).take 2).length = 2 ∧ (f :: ([] : List Int)).take 2 = lenF (((f :: ([] : List Int)).take 2).getD (2 - 1) 0)) := fun z => by cases z.1
      rw [if_neg n2, st 3 _ _ ⟨by decide, by decide⟩, if_neg (fun z => by cases z.1)]
      have e : m_read_length data (j : Int) = .exc "Malformed" := by
        rw [rl]
        by_cases x : f = 129
        · rw [if_pos x, if_neg (fun z => by have := (lenF_1 (a := f) z).1; rw [x] at this; cases this)]
        · rw [if_neg x]
          by_cases y : f = 130
          · rw [if_pos y, if_neg (fun z => by have := (lenF_1 (a := f) z).1; rw [y] at this; cases this)]
          · rw [if_neg y, if_neg a1]
      exact ⟨fF, bad e, rfl, qF.1, pyEq_self qF.2.2.2.1⟩
    | [x], rb, rl, hd, st =>
      have t2 : (f :: [x]).take 2 = [f, x] := rfl
      rw [t2, show ([f, x] : List Int).getD (2 - 1) 0 = x from rfl]
      by_cases q : [f, x] = lenF x
      · have e := lenF_2 q
        rw [if_pos e, show ([x] : List Int).take 1 = [x] from rfl, show ([x] : List Int).foldl fb 0 = x by show 0 * 256 + x = x; omega, if_pos q] at rl
        exact ⟨_, fin _ _ rl, if_pos ⟨rfl, q⟩, okp _ _⟩
      · rw [if_neg (fun z => q z.2), st 3 _ _ ⟨by decide, by decide⟩, if_neg (fun z => by cases z.1)]
        have e : m_read_length data (j : Int) = .exc "Malformed" := by
          rw [rl]
          by_cases x1 : f = 129
          · rw [if_pos x1, show ([x] : List Int).take 1 = [x] from rfl, show ([x] : List Int).foldl fb 0 = x by show 0 * 256 + x = x; omega, if_neg q]
          · rw [if_neg x1]
            by_cases y : f = 130
            · rw [if_pos y, show ([x] : List Int).take 2 = [x] from rfl, if_neg (fun z => x1 (lenF_2 (a := f) (b := x) z))]
            · rw [if_neg y, if_neg a1]
        exact ⟨fF, bad e, rfl, qF.1, pyEq_self qF.2.2.2.1⟩
    | x :: y :: t, rb, rl, hd, st =>
      have t2 : (f :: x :: y :: t).take 2 = [f, x] := rfl
      have t3 : (f :: x :: y :: t).take 3 = [f, x, y] := rfl
      rw [t2, show ([f, x] : List Int).getD (2 - 1) 0 = x from rfl]
      have x1v : (x :: y :: t).take 1 = [x] := rfl
      have x2v : (x :: y :: t).take 2 = [x, y] := rfl
      have fx : ([x] : List Int).foldl fb 0 = x := by show 0 * 256 + x = x; omega
      have fxy : ([x, y] : List Int).foldl fb 0 = 256 * x + y := by show (0 * 256 + x) * 256 + y = _; omega
      rw [x1v, x2v, fx, fxy] at rl
      by_cases q : [f, x] = lenF x
      · have e := lenF_2 q
        rw [if_pos e, if_pos q] at rl
        exact ⟨_, fin _ _ rl, if_pos ⟨rfl, q⟩, okp _ _⟩
      · rw [if_neg (fun z => q z.2), st 3 _ _ ⟨by decide, by decide⟩, t3, if_pos rfl, show ([f, x, y] : List Int).getD 1 0 = x from rfl, show ([f, x, y] : List Int).getD 2 0 = y from rfl]
        by_cases q3 : [f, x, y] = lenF (256 * x + y)
        · have e := lenF_3 q3
          rw [if_neg (by omega), if_pos e, if_pos q3] at rl
          exact ⟨_, fin _ _ rl, if_pos ⟨rfl, q3⟩, okp _ _⟩
        · rw [if_neg (fun z => q3 z.2)]
          have e : m_read_length data (j : Int) = .exc "Malformed" := by
            rw [rl]
            by_cases x1 : f = 129
            · rw [if_pos x1, if_neg q]
            · rw [if_neg x1]
              by_cases y1 : f = 130
              · rw [if_pos y1, if_neg q3]
              · rw [if_neg y1, if_neg a1]
          exact ⟨fF, bad e, rfl, qF.1, pyEq_self qF.2.2.2.1⟩

theorem cshl' {k : Nat} (h : k ≤ 1000) : CShl (1 : Int) (k : Int) := ⟨by omega, by
  have : Builtin.Int.intBits (1 : Int) ≤ 8 := le_ibits (by decide)
  omega⟩
theorem cshlB {k : Nat} (h : k ≤ 1000) : CShl (128 : Int) (k : Int) := ⟨by omega, by
  have : Builtin.Int.intBits (128 : Int) ≤ 8 := le_ibits (by decide)
  omega⟩

theorem size_ok {c : Int} (hc : 0 ≤ c) : ∃ s, m_u_law_size c = .ok s ∧ 0 ≤ s ∧ s ≤ 65535 := by
  unfold m_u_law_size
  rw [Res.bind_ok]
  by_cases z : c % 3 = 0
  · rw [decide_eq_true z, cond_true]
    have h0 := Int.emod_nonneg (c / 3) (show (10 : Int) ≠ 0 by decide)
    have h1 := Int.emod_lt_of_pos (c / 3) (show (0 : Int) < 10 by decide)
    generalize c / 3 % 10 = i at *
    rcases (show i = 0 ∨ i = 1 ∨ i = 2 ∨ i = 3 ∨ i = 4 ∨ i = 5 ∨ i = 6 ∨ i = 7 ∨ i = 8 ∨ i = 9 by omega) with rfl | rfl | rfl | rfl | rfl | rfl | rfl | rfl | rfl | rfl <;> exact ⟨_, rfl, by decide, by decide⟩
  · rw [decide_eq_false z, cond_false]
    exact ⟨_, rfl, by omega, by omega⟩
theorem lk3 {o : Int} (ho : 0 ≤ o) {before data r : List Int} {f : Int} (hb : Byt data) (hd : data.drop before.length = f :: r) : m_u_law_lengths_k3 o before data = .ok true := by
  obtain ⟨d, e1, e2, e3, e4⟩ := dl_eq hb hd
  have w1 : m_u_law_told 0 (toD (-1 - o)) 0 = .ok fR := tl_r (by rw [c0, wl_bad (.inl (by omega))]; rfl)
  have w2 : m_u_law_told 0 (toD (65536 + o)) 0 = .ok fR := tl_r (by rw [c0, wl_bad (.inr (by omega))]; rfl)
  unfold m_u_law_lengths_k3
  rw [e1, Res.bind_ok, e2, Res.bind_ok, Res.need_pos ⟨e3, e3⟩, Res.bind_ok, e4, Bool.not_true, cond_false, w1, Res.bind_ok, Res.need_pos ⟨qR.1, qR.2.2⟩, Res.bind_ok, qR.2.1, cond_true, w2, Res.bind_ok, Res.need_pos ⟨qR.1, qR.2.2⟩, qR.2.1]
theorem lens_ok {c o : Int} (hc : 0 ≤ c) (ho : 0 ≤ o) : m_u_law_lengths c o = .ok true := by
  obtain ⟨s, e1, s0, s1⟩ := size_ok hc
  have ll := lenF_len s
  have t0 : m_u_law_told 0 (toD s) 0 = .ok (toD (lenF s)) := tl_ok (by rw [c0, wl_ok s0 s1]; rfl)
  obtain ⟨a, ha⟩ := Int.eq_ofNat_of_zero_le (show 0 ≤ o % 4 by omega)
  obtain ⟨before, q, qb, ql⟩ := dby_ok o (s := a) (by omega)
  obtain ⟨b, hb⟩ := Int.eq_ofNat_of_zero_le (show 0 ≤ o / 72 % 4 by omega)
  obtain ⟨bs, p, pb, pl⟩ := dby_ok (o + 1) (s := b) (by omega)
  have rk : RepOk ([o % 256] : List Int).length (o / 4 % 3) := ⟨by omega, by omega, by rw [List.length_singleton]; omega⟩
  have wl : (List.replicate (o / 4 % 3).toNat ([o % 256] : List Int)).flatten.length ≤ 2 := by
    rw [List.length_flatten, List.map_replicate, List.sum_replicate_nat, List.length_singleton]; omega
  generalize hw : (List.replicate (o / 4 % 3).toNat ([o % 256] : List Int)).flatten = w at *
  have rl := rl_ok before w s0 s1
  have t1 : m_u_law_told 1 (toD (before ++ lenF s ++ w)) (before.length : Int) = .ok (toD (T2.mk s ((before.length + (lenF s).length : Nat) : Int))) := tl_ok (by rw [c1, rl]; rfl)
  have f0 : Byt [127 + o / 12 % 6] := fun d hd => by cases List.mem_singleton.mp hd; omega
  have db : Byt (before ++ [127 + o / 12 % 6] ++ bs) := byt_app (byt_app qb f0) pb
  have dd : (before ++ [127 + o / 12 % 6] ++ bs).drop before.length = (127 + o / 12 % 6) :: bs := by rw [List.append_assoc, List.drop_left]; rfl
  have dl : (before ++ [127 + o / 12 % 6] ++ bs).length = before.length + 1 + bs.length := by simp only [List.length_append, List.length_singleton]
  have kq : (toD (toD (T2.mk s ((before.length + (lenF s).length : Nat) : Int)) : D)).okq = true ∧ (toD (T2.mk s ((before.length + (lenF s).length : Nat) : Int))).okq = true := ⟨rfl, rfl⟩
  have eq : pyEq (toD (toD (T2.mk s ((before.length + (lenF s).length : Nat) : Int)) : D)) (toD (T2.mk s ((before.length + (lenF s).length : Nat) : Int))) = true := pyEq_self (x := toD (T2.mk s ((before.length + (lenF s).length : Nat) : Int))) rfl
  unfold m_u_law_lengths
  simp only [e1, Res.bind_ok, t0, ll_ok, islist_ok, Bool.not_true, cond_false, ha, q]
  rw [Res.need_pos (by omega), Res.bind_ok, Res.need_pos rk, Res.bind_ok, hw, Res.need_pos (by rw [List.length_append]; omega), Res.bind_ok, t1, Res.bind_ok]
  rw [show (before.length : Int) + ((lenF s).length : Int) = ((before.length + (lenF s).length : Nat) : Int) by omega, Res.need_pos kq, Res.bind_ok, eq, Bool.not_true, cond_false]
  rw [Res.need_pos (by rw [List.length_singleton]; omega), Res.bind_ok, hb, p, Res.bind_ok, Res.need_pos (by rw [List.length_append, List.length_singleton]; omega), Res.bind_ok]
  by_cases z : o / 288 % 4 = 1
  · rw [decide_eq_true z, cond_true, Res.bind_ok]
    by_cases y : (before.length : Int) + 1 < ((before ++ [127 + o / 12 % 6] ++ bs).length : Int)
    · rw [decide_eq_true y, cond_true]
      have iv : ∃ v, idx ([(0 : Int), 127, 128, 1] : List Int) (o / 1152 % 4) = .ok v ∧ 0 ≤ v ∧ v ≤ 255 := by
        have h0 := Int.emod_nonneg (o / 1152) (show (4 : Int) ≠ 0 by decide)
        have h1 := Int.emod_lt_of_pos (o / 1152) (show (0 : Int) < 4 by decide)
        generalize o / 1152 % 4 = i at *
        rcases (show i = 0 ∨ i = 1 ∨ i = 2 ∨ i = 3 by omega) with rfl | rfl | rfl | rfl <;> exact ⟨_, rfl, by decide, by decide⟩
      obtain ⟨v, i1, v0, v1⟩ := iv
      have ix : ixN (before ++ [127 + o / 12 % 6] ++ bs).length ((before.length : Int) + 1) = some (before.length + 1) := by
        unfold ixN
        rw [if_pos (by omega), if_pos (by omega)]
        congr 1
      rw [i1, Res.bind_ok, ix]
      dsimp only
      unfold m_u_law_lengths_k5
      refine lk3 ho (f := 127 + o / 12 % 6) (r := bs.set 0 v) (fun x hx => ?_) ?_
      · rcases List.mem_or_eq_of_mem_set hx with hx | hx
        · exact db x hx
        · rw [hx]; exact ⟨v0, v1⟩
      · rw [List.drop_set, if_neg (by omega), dd, show before.length + 1 - before.length = 1 by omega]; rfl
    · rw [decide_eq_false y, cond_false]
      exact lk3 ho db dd
  · rw [decide_eq_false z, cond_false, Res.bind_ok, cond_false]
    exact lk3 ho db dd
theorem p520 : ∃ b : Int, b = 2 ^ 520 ∧ CShl (1 : Int) (520 : Int) ∧ (1 : Int) * 2 ^ (520 : Int).toNat = b ∧ 0 < b ∧ (∀ k : Nat, k ≤ 520 → (2 : Int) ^ k ≤ b) := by
  refine ⟨2 ^ 520, rfl, cshl' (k := 520) (by decide), by rw [Int.one_mul]; rfl, Int.pow_pos (by decide), fun k hk => ?_⟩
  have := Nat.pow_le_pow_right (n := 2) (by decide) hk
  rw [← PySem.W.kbt_cast, ← PySem.W.kbt_cast]; omega
theorem bits520 {n : Int} (h0 : 0 ≤ n) (h1 : n < 2 ^ 520) : Builtin.Int.intBits n ≤ 520 := by
  obtain ⟨k, rfl⟩ := Int.eq_ofNat_of_zero_le h0
  refine le_ibits ?_
  rw [← PySem.W.kbt_cast] at h1
  rw [Int.natAbs_natCast]; omega

theorem nk2 {n : Int} (n0 : 0 ≤ n) : ∃ m, m_u_law_number_k2 n = .ok m ∧ 0 ≤ m ∧ m < 2 ^ 520 := by
  obtain ⟨b, eb, cs, e, b0, _⟩ := p520
  unfold m_u_law_number_k2
  rw [Res.need_pos cs, e]
  refine ⟨_, rfl, ?_, ?_⟩
  · show 0 ≤ min n (b - 1); omega
  · rw [← eb]; show min n (b - 1) < b; omega
theorem nk1 {o n : Int} (ho : 0 ≤ o) (n0 : 0 ≤ n) : ∃ m, m_u_law_number_k1 o n = .ok m ∧ 0 ≤ m ∧ m < 2 ^ 520 := by
  unfold m_u_law_number_k1
  rw [Res.bind_ok]
  by_cases z : o % 4 = 1
  · obtain ⟨a, ha⟩ := Int.eq_ofNat_of_zero_le (show 0 ≤ o / 4 % 64 by omega)
    rw [decide_eq_true z, cond_true, ha, show (8 : Int) * (a : Int) = ((8 * a : Nat) : Int) by omega, Res.need_pos (cshlB (by omega)), Int.toNat_natCast]
    have p : (0 : Int) < 2 ^ (8 * a) := Int.pow_pos (by decide)
    exact nk2 (by omega)
  · rw [decide_eq_false z, cond_false]
    exact nk2 n0
theorem number_ok {c o : Int} (ho : 0 ≤ o) : ∃ m, m_u_law_number c o = .ok m ∧ 0 ≤ m ∧ Builtin.Int.intBits m ≤ 520 := by
  suffices h : ∃ m, m_u_law_number c o = .ok m ∧ 0 ≤ m ∧ m < 2 ^ 520 by
    obtain ⟨m, e, a, b⟩ := h
    exact ⟨m, e, a, bits520 a b⟩
  obtain ⟨b, eb, cs, e, b0, _⟩ := p520
  have q0 := Int.emod_nonneg (c.natAbs : Int) (Int.ne_of_gt b0)
  unfold m_u_law_number
  rw [Res.need_pos cs, e]
  simp only [Res.bind_ok, Res.need_pos b0]
  by_cases z : o % 4 = 0
  · obtain ⟨a, ha⟩ := Int.eq_ofNat_of_zero_le (show 0 ≤ o / 4 % 65 by omega)
    rw [decide_eq_true z, cond_true, ha, show (8 : Int) * (a : Int) = ((8 * a : Nat) : Int) by omega, Res.need_pos (cshl' (by omega)), Int.toNat_natCast]
    have iv : ∃ v, idx ([(0 : Int), 1, 128] : List Int) (o / 260 % 3) = .ok v := by
      have h0 := Int.emod_nonneg (o / 260) (show (3 : Int) ≠ 0 by decide)
      have h1 := Int.emod_lt_of_pos (o / 260) (show (0 : Int) < 3 by decide)
      generalize o / 260 % 3 = i at *
      rcases (show i = 0 ∨ i = 1 ∨ i = 2 by omega) with rfl | rfl | rfl <;> exact ⟨_, rfl⟩
    obtain ⟨v, iv⟩ := iv
    simp only [iv, Res.bind_ok]
    exact nk1 ho (by omega)
  · rw [decide_eq_false z, cond_false]
    exact nk1 ho q0
theorem cpre (xs : List Int) (k : Nat) : cutL xs none (some (k : Int)) = xs.take k := by
  unfold cutL
  rw [HT.sIx_none, HT.sIx_nat, List.drop_zero, Nat.sub_zero]
  by_cases c : k ≤ xs.length
  · rw [Nat.min_eq_left c]
  · rw [Nat.min_eq_right (by omega), List.take_of_length_le (by omega), List.take_of_length_le (by omega)]
theorem csuf (xs : List Int) (k : Nat) : cutL xs (some (k : Int)) none = xs.drop k := by
  unfold cutL
  rw [HT.sIx_none, HT.sIx_nat]
  by_cases c : k ≤ xs.length
  · rw [Nat.min_eq_left c, List.take_of_length_le (by rw [List.length_drop]; omega)]
  · rw [Nat.min_eq_right (by omega), List.drop_length, List.drop_eq_nil_of_le (by omega), List.take_nil]
theorem take_byt' {d : List Int} (h : Byt d) (k : Nat) : Byt (d.take k) := fun x hx => h x (List.mem_of_mem_take hx)
theorem near30 {v : Int} (v1 : Builtin.Int.intBits v ≤ 520) {c : Int} (hc : 0 ≤ c) : ∃ near, m_u_law_near (numF v) c = .ok near ∧ Byt near ∧ near.length ≤ 1000 := by
  have hb := numF_byt v1
  have hl := numF_len v1
  have cl := conF_len v
  have nf : numF v = 2 :: ((conF v).length : Int) :: conF v := by
    show 2 :: (lenF ((conF v).length : Int) ++ conF v) = _
    unfold lenF
    rw [if_pos (by omega)]; rfl
  have ln : (numF v).length = (conF v).length + 2 := by rw [nf]; rfl
  have pl : (0 : Int) < ((numF v).length : Int) := by omega
  have a0 := Int.emod_nonneg (c / 4) (Int.ne_of_gt pl)
  have a1 := Int.emod_lt_of_pos (c / 4) pl
  unfold m_u_law_near
  rw [Res.bind_ok, Res.need_pos pl, Res.bind_ok, Res.bind_ok]
  obtain ⟨j, hj⟩ := Int.eq_ofNat_of_zero_le a0
  rw [hj] at a1 ⊢
  have k3 : ∀ data : List Int, Byt data → data.length ≤ 100 → (c % 4 = 3 → data = numF v) → ∃ near, m_u_law_near_k3 c data = .ok near ∧ Byt near ∧ near.length ≤ 1000 := by
    intro data hd hl2 h3
    unfold m_u_law_near_k3 m_u_law_near_k4
    by_cases z : c % 4 = 3
    · have e := h3 z
      subst e
      rw [decide_eq_true z, cond_true, Res.bind_ok, decide_eq_true (by omega), cond_true]
      have i1 : idx (numF v) (1 : Int) = .ok ((conF v).length : Int) := by rw [nf]; exact idx_int (by decide) rfl
      have cs := csuf (numF v) 2
      have cs : cutL (numF v) (some (2 : Int)) none = (numF v).drop 2 := cs
      rw [i1, cs]
      simp only [Res.bind_ok]
      have dl : ((numF v).drop 2).length ≤ 68 := by rw [List.length_drop]; omega
      rw [Res.need_pos (by show 3 + _ ≤ 16777216; omega), Res.bind_ok]
      refine ⟨_, rfl, byt_app (fun d hd => ?_) (drop_byt' hb 2), by rw [List.length_append]; show 3 + _ ≤ _; omega⟩
      rcases List.mem_cons.mp hd with rfl | hd
      · omega
      rcases List.mem_cons.mp hd with rfl | hd
      · omega
      cases List.mem_singleton.mp hd; omega
    · rw [decide_eq_false z, cond_false, Res.bind_ok, cond_false]
      exact ⟨_, rfl, hd, by omega⟩
  have k2 : ∀ data : List Int, Byt data → data.length ≤ 80 → (c % 4 = 3 → data = numF v) → ∃ near, m_u_law_near_k2 c (j : Int) data = .ok near ∧ Byt near ∧ near.length ≤ 1000 := by
    intro data hd hl2 h3
    unfold m_u_law_near_k2
    rw [Res.bind_ok]
    by_cases z : c % 4 = 2
    · have iv : ∃ x, idx ([(0 : Int), 255, c / 4000 % 256] : List Int) (c / 1000 % 3) = .ok x ∧ 0 ≤ x ∧ x ≤ 255 := by
        have h0 := Int.emod_nonneg (c / 1000) (show (3 : Int) ≠ 0 by decide)
        have h1 := Int.emod_lt_of_pos (c / 1000) (show (0 : Int) < 3 by decide)
        generalize c / 1000 % 3 = i at *
        rcases (show i = 0 ∨ i = 1 ∨ i = 2 by omega) with rfl | rfl | rfl
        · exact ⟨_, rfl, by decide, by decide⟩
        · exact ⟨_, rfl, by decide, by decide⟩
        · exact ⟨_, rfl, by omega, by omega⟩
      obtain ⟨x, ix, x0, x1⟩ := iv
      have xb : Byt [x] := fun d hd => by cases List.mem_singleton.mp hd; omega
      have lt : (data.take j).length + (data.drop j).length = data.length := by rw [← List.length_append, List.take_append_drop]
      rw [decide_eq_true z, cond_true]
      simp only [Res.bind_ok, cpre, csuf, ix]
      rw [Res.need_pos (by rw [List.length_singleton]; omega), Res.bind_ok, Res.need_pos (by rw [List.length_append, List.length_singleton]; omega), Res.bind_ok]
      exact k3 _ (byt_app (byt_app (take_byt' hd j) xb) (drop_byt' hd j)) (by simp only [List.length_append, List.length_singleton]; omega) (fun h => by omega)
    · rw [decide_eq_false z, cond_false]
      exact k3 _ hd (by omega) h3
  have k1 : ∀ data : List Int, Byt data → data.length ≤ 80 → (c % 4 = 3 → data = numF v) → ∃ near, m_u_law_near_k1 c (j : Int) data = .ok near ∧ Byt near ∧ near.length ≤ 1000 := by
    intro data hd hl2 h3
    unfold m_u_law_near_k1
    rw [Res.bind_ok]
    by_cases z : c % 4 = 1
    · rw [decide_eq_true z, cond_true, show (j : Int) + 1 = ((j + 1 : Nat) : Int) by omega]
      simp only [Res.bind_ok, cpre, csuf]
      have l2 : (data.drop (j + 1)).length = data.length - (j + 1) := List.length_drop ..
      have l3 : (data.take j).length = min j data.length := List.length_take ..
      rw [Res.need_pos (by omega), Res.bind_ok]
      exact k2 _ (byt_app (take_byt' hd j) (drop_byt' hd (j + 1))) (by rw [List.length_append]; omega) (fun h => by omega)
    · rw [decide_eq_false z, cond_false]
      exact k2 _ hd hl2 h3
  by_cases z : c % 4 = 0
  · rw [decide_eq_true z, cond_true, Res.bind_ok, Res.bind_ok]
    have ix : ixN (numF v).length (j : Int) = some j := by
      unfold ixN
      rw [if_pos (by omega), if_pos (by omega)]
      simp
    rw [ix]
    dsimp only
    unfold m_u_law_near_k5
    refine k1 _ (fun d hd => ?_) (by rw [List.length_set]; omega) (fun h => by omega)
    rcases List.mem_or_eq_of_mem_set hd with hd | hd
    · exact hb d hd
    · rw [hd]; omega
  · rw [decide_eq_false z, cond_false]
    exact k1 _ hb (by omega) (fun _ => rfl)

theorem found_ok {near : List Int} (hb : Byt near) (hl : near.length ≤ 1000) {n : Int} (n0 : 0 ≤ n) (n1 : Builtin.Int.intBits n ≤ 520) (b : Int) (b0 : 0 < b) (hbb : ∀ v : Int, 0 ≤ v → Builtin.Int.intBits v ≤ 520 → ¬ b ≤ v) : ∃ d, m_u_law_told 3 (toD near) 0 = .ok d ∧
    (m_u_law_integer d).bind (fun z => cond z (((D.asInt d).bind fun t => Res.ok (decide (t < (0 : Int)))).bind fun z => cond z (.ok true) (((D.asInt d).bind fun t => Res.ok (decide (b ≤ t))).bind fun z => cond z (.ok true) ((((D.asInt d).bind fun a => Res.ok (a, ())).bind fun p => m_u_law_form p.1).bind fun t => Res.need ((toD t).okq = true ∧ (toD near).okq = true) (Res.ok (!pyEq (toD t) (toD near)))))) (.ok false)) = .ok false ∧
    (cond (decide (near = numF n)) (Res.need ((toD d).okq = true ∧ (toD n).okq = true) (Res.ok (!pyEq (toD d) (toD n)))) (Res.ok false)) = .ok false ∧
    (Res.need ((toD d).plain = true) (Res.ok (isI "tuple" (toD d)))).bind (fun z => cond z ((Res.need ((toD d).okq = true ∧ (toD (T2.mk ("refused" : Str) ("form" : Str))).okq = true) (Res.ok (!pyEq (toD d) (toD (T2.mk ("refused" : Str) ("form" : Str)))))).bind fun z => cond z ((idx near (0 : Int)).bind fun t => Res.ok (!decide (t = (48 : Int)))) (Res.ok false)) (Res.ok false)) = .ok false := by
  have int : ∀ v : Int, 0 ≤ v → Builtin.Int.intBits v ≤ 520 → near = numF v → (m_u_law_integer (D.int v)).bind (fun z => cond z (((D.asInt (D.int v)).bind fun t => Res.ok (decide (t < (0 : Int)))).bind fun z => cond z (.ok true) (((D.asInt (D.int v)).bind fun t => Res.ok (decide (b ≤ t))).bind fun z => cond z (.ok true) ((((D.asInt (D.int v)).bind fun a => Res.ok (a, ())).bind fun p => m_u_law_form p.1).bind fun t => Res.need ((toD t).okq = true ∧ (toD near).okq = true) (Res.ok (!pyEq (toD t) (toD near)))))) (.ok false)) = .ok false := by
    intro v v0 v1 e
    rw [isint_int, Res.bind_ok, cond_true, show D.asInt (D.int v) = .ok v from rfl]
    simp only [Res.bind_ok]
    rw [decide_eq_false (show ¬ v < 0 by omega), cond_false, decide_eq_false (hbb v v0 v1), cond_false, lform2_ok v0 v1, Res.bind_ok, Res.need_pos (And.intro (okq_ints _) (okq_ints _)), pyEq_ints, e, decide_eq_true rfl]
    rfl
  have itup : ∀ v : Int, (Res.need ((toD (D.int v)).plain = true) (Res.ok (isI "tuple" (toD (D.int v))))) = .ok false := fun v => by rw [Res.need_pos (by rfl)]; rfl
  by_cases q : near = numF n
  · subst q
    refine ⟨D.int n, tl_ok (by rw [c3, rt_fwd n0 n1]), int n n0 n1 rfl, ?_, ?_⟩
    · rw [decide_eq_true rfl, cond_true, Res.need_pos ⟨rfl, rfl⟩, show pyEq (toD (D.int n)) (toD n) = true from pyEq_self (x := D.int n) rfl]; rfl
    · rw [itup]; rfl
  · rcases rt_inv hb hl with e | ⟨d, e, td, ⟨v, rfl, v0, v1, ev⟩ | ⟨⟨ds, rfl⟩, c, ec⟩⟩
    · refine ⟨fF, tl_f (by rw [c3, e]), ?_, ?_, ?_⟩
      · rw [show fF = D.tup [D.str "refused", D.str "form"] from rfl, isint_tup]; rfl
      · rw [decide_eq_false q]; rfl
      · rw [Res.need_pos qF.2.2.2.2.1, Res.bind_ok, qF.2.2.2.2.2, cond_true, Res.need_pos ⟨qF.1, qF.2.2.1⟩, Res.bind_ok, qF.2.1]; rfl
    · refine ⟨D.int v, tl_ok (by rw [c3, e]), int v v0 v1 ev, ?_, ?_⟩
      · rw [decide_eq_false q]; rfl
      · rw [itup]; rfl
    · refine ⟨D.tup ds, tl_ok (by rw [c3, e]), ?_, ?_, ?_⟩
      · rw [isint_tup]; rfl
      · rw [decide_eq_false q]; rfl
      · have i0 : idx near (0 : Int) = .ok 48 := by rw [ec]; exact idx_int (by decide) rfl
        rw [Res.need_pos (td_plain td), Res.bind_ok, show isI "tuple" (toD (D.tup ds)) = true from rfl, cond_true, Res.need_pos ⟨td_okq td, qF.2.2.1⟩, Res.bind_ok, i0]
        cases pyEq (toD (D.tup ds)) (toD (T2.mk ("refused" : Str) ("form" : Str))) <;> rfl
theorem l30_step (ns : Ro Int) (kk : Option Int → Res Bool) (x : Int) (x0 : 0 ≤ x) (r : List Int) (s : Option Int) : ∃ n : Int, 0 ≤ n ∧ m_law_l1 ns kk (x :: r) s = m_law_l1 ns kk r (some n) := by
  obtain ⟨e0, d0⟩ := cell_ex ns x0
  obtain ⟨e3, d3⟩ := cell_ex ns (show (0 : Int) ≤ 3 + x by omega)
  obtain ⟨e6, d6⟩ := cell_ex ns (show (0 : Int) ≤ 6 + x by omega)
  obtain ⟨e9, d9⟩ := cell_ex ns (show (0 : Int) ≤ 9 + x by omega)
  obtain ⟨e12, d12⟩ := cell_ex ns (show (0 : Int) ≤ 12 + x by omega)
  have L := lens_ok (c := (e0.natAbs : Int)) (o := (e3.natAbs : Int)) (by omega) (by omega)
  obtain ⟨n, N, n0, n1⟩ := number_ok (c := e6) (o := (e9.natAbs : Int)) (by omega)
  obtain ⟨near, Nr, nb, nl⟩ := near30 n1 (c := (e12.natAbs : Int)) (by omega)
  obtain ⟨b, eb, cs, e, b0, _⟩ := p520
  have hbb : ∀ v : Int, 0 ≤ v → Builtin.Int.intBits v ≤ 520 → ¬ b ≤ v := fun v v0 v1 h => by
    have := bits_lt2 v0 v1
    rw [← eb] at this; omega
  obtain ⟨d, T, f1, f2, f3⟩ := found_ok nb nl n0 n1 b b0 hbb
  have t2 : m_u_law_told 2 (toD n) 0 = .ok (toD (numF n)) := tl_ok (by rw [c2, wnum_ok n0 n1]; rfl)
  have t3 : m_u_law_told 3 (toD (numF n)) 0 = .ok (D.int n) := tl_ok (by rw [c3, rt_fwd n0 n1])
  have eqn : pyEq (toD (D.int n)) (toD n) = true := pyEq_self (x := D.int n) rfl
  have kqn : (toD (D.int n)).okq = true ∧ (toD n).okq = true := ⟨rfl, rfl⟩
  refine ⟨n, n0, ?_⟩
  rw [m_law_l1]
  simp only [d0, d3, d6, d9, d12, Res.bind_ok, L, N, t2, lform2_ok n0 n1, islist_ok, Bool.not_true, cond_false, asInts_toD, t3, isint_int, Res.need_pos kqn, eqn, Nr, T, Res.need_pos cs, e]
  have kf : (toD (toD (numF n) : D)).okq = true := okq_ints _
  have ef : pyEq (toD near) (toD (toD (numF n) : D)) = decide (near = numF n) := pyEq_ints _ _
  rw [f1, Res.bind_ok, cond_false, Res.need_pos (And.intro (okq_ints near) kf), Res.bind_ok, ef, f2, Res.bind_ok, cond_false, f3, Res.bind_ok, cond_false]
theorem l30_fin {n : Int} (n0 : 0 ≤ n) : m_law_k7 (some n) = .ok true := by
  obtain ⟨b, eb, cs, e, b0, _⟩ := p520
  have w1 : m_u_law_told 2 (toD (-1 - n)) 0 = .ok fR := tl_r (by rw [c2, wnum_bad (.inl (by omega))]; rfl)
  have w2 : m_u_law_told 2 (toD (b + n)) 0 = .ok fR := tl_r (by
    rw [c2, wnum_bad (.inr (Nat.lt_of_not_le fun h => ?_))]; · rfl
    have := bits_lt2 (show 0 ≤ b + n by omega) h
    rw [← eb] at this; omega)
  unfold m_law_k7
  dsimp only
  rw [w1, Res.bind_ok, Res.need_pos ⟨qR.1, qR.2.2⟩, Res.bind_ok, qR.2.1, cond_true, Res.need_pos cs, e]
  simp only [Res.bind_ok]
  rw [w2, Res.bind_ok, Res.need_pos ⟨qR.1, qR.2.2⟩, qR.2.1]
theorem law_true (ns : Ro Int) (_ : ns.xs.length ≤ 63) (_ : ∀ i ∈ ns.xs, Builtin.Int.intBits i ≤ 1048576) : m_law ns = .ok true := by
  unfold m_law
  rw [Res.need_pos ⟨by decide, by decide⟩, Res.bind_ok, show pyRange 0 3 = [0, 1, 2] from rfl]
  obtain ⟨a, _, e1⟩ := l30_step ns m_law_k7 0 (by decide) [1, 2] none
  obtain ⟨b, _, e2⟩ := l30_step ns m_law_k7 1 (by decide) [2] (some a)
  obtain ⟨c, h, e3⟩ := l30_step ns m_law_k7 2 (by decide) [] (some b)
  rw [e1, e2, e3]
  exact l30_fin h
end Mi
open PySem PySem.W PySem.Calls PyProof.Rows
theorem PySem.Challenge.cw_curveseal_k30_lengths_and_numbers_holds : PySem.Challenge.rw_curveseal_k30_lengths_and_numbers.Holds := by
  w_on; o_law
  refine Mi.head_pieces (r := OpenLaw.row PySem.Challenge.rw_curveseal_k30_lengths_and_numbers) (q := view (OpenLaw.row PySem.Challenge.rw_curveseal_k30_lengths_and_numbers).prog [44]) (H := Mi.hk) (ob := Mi.ob) (N := 20000000) (k := Mi.fuelQ) (x := Mi.S_x) (s' := Mi.S_f) (loose := (["is_whole", "to_little", "to_big", "from_big", "is_bytes", "write_length", "read_length", "write_number", "_number_content", "_part", "_only_part", "_split_parts", "_number", "_part_count", "read_tree", "_tree_value", "_law_cell", "_law_twice", "_law_bytes", "_law_integer", "_law_is_list", "_law_length", "_law_form", "_law_call", "_law_told"] : List Str) ++ (["_law_size", "_law_due_length", "_law_lengths", "_law_number", "_law_near", "CurveError", "OutOfRange", "Malformed", "NUMBER_TAG", "SEQUENCE_TAG", "LONGEST_CONTENT", "MOST_BITS", "LONGEST_NUMBER", "MOST_LEVELS", "MOST_PARTS"] : List Str)) (d := HandSHeadRun.topDef (OpenLaw.row PySem.Challenge.rw_curveseal_k30_lengths_and_numbers).prog 44) (kwd := []) Mi.ob_eq (by kernel_rfl) Mi.runw_ Mi.lk1_ Mi.lk2_ Mi.lk3_ (by kernel_rfl) (by kernel_rfl) (by kernel_rfl) (by rfl) (by first | assumption | decide +kernel) (by decide +kernel) ⟨rfl, rfl, rfl, rfl, rfl, by decide +kernel⟩ ?hw ?hc
  case hw => w_witness2
  case hc =>
    refine Mi.walk_end (l := PySem.Challenge.rw_curveseal_k30_lengths_and_numbers) (n := 63) (k := 19) (x := "script") (m := Mi.m_law) rfl (by decide) (by kernel_rfl) ⟨rfl, by decide, by decide⟩ ?F (fun ns h1 h2 => Mi.law_true ⟨ns⟩ h1 h2)
    intro w mg fa h Y G hmg0
    obtain ⟨K, KX, c⟩ := Y
    have hmg : mg ("law" : PySem.Str) = some (.ref fa) := by
      have e : (HandSHeadRun.topDef (OpenLaw.row PySem.Challenge.rw_curveseal_k30_lengths_and_numbers).prog 44).name = ("law" : PySem.Str) := by kernel_rfl
      rw [← e]
      exact hmg0
    have T := Mi.facts_of KX G c
    have ea := hmg.symm.trans T.g_law
    cases ea
    obtain ⟨fd, FL⟩ := T.d_law
    have b := L2.FunD.bindsA (ps := ["script"]) FL fun _ _ _ _ _ _ us hl => match us, hl with | [_], _ => rfl
    exact ⟨K, fd, KX, fun s u => b s [u] rfl, fun base _ _ => Mi.ok_law T FL⟩
