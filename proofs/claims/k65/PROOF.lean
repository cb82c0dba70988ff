import PyProof.Rows.All
import Wide.All
import OpenK.AllK
import Wide.FinOn
import HandS.Base
import HandS.Call
import HandS.List
import HandS.Comp
import HandS.Ends
import HandS.Exc
import HandS.ExcOwn
import HandS.TryOnly
import HandS.ExcIs
import HandS.IsInst
import HandS.FStr
import HandS.RaiseMore
import HandS.Words
import HandS.WordsList
import HandS.WordsExc
import HandS.WideBits
import HandS.Iter
import HandS.Text
import HandS.Evl
import HandS.Head0
import HandS.Head1
import HandS.Head2
import HandS.HeadEnd
import HandS.HeadHook1
import HandS.HeadHook2
import HandS.HeadHook4
import HandS.EndBits
import HandS.Style
import KE.KSuper
import HandS.More
import HandS.Head3
import Wide.Once
import HandS.TryMany
import HandS.Rev
import HandS.RevTup
import PyProof.ListNew
import HandS.Defaults
import HandS.CallSlots
import HandS.MakeKwOnly
import KE.DatumOrd
import HandS.Conv
import HandS.Dict
import KE.KMathG
import HandS.Struct
import HandS.Zip
import KE.GoesMore
import KE.GoesRaise
import HandS.TupMul
import PySem.Challenge.RW_curveseal_k65_entries
set_option Elab.async false
set_option linter.all false
set_option maxRecDepth 100000
set_option autoImplicit false
set_option maxHeartbeats 4000000
set_option maxHeartbeats 1000000
namespace Mi
open PySem PySem.Spec L2
open Evl (Ex)

/-! ### data -/
inductive D where
  | non | bl (b : Bool) | int (i : Int) | str (s : Str) | ty (n : String)
  | tup (xs : List D) | lst (xs : List D) | obj (c : Str) (ks : List Str) (ds : List D) | ro (xs : List D) | dct (ks : List Str) (ds : List D)

class ToD (α : Type) where
  d : α → D
abbrev toD {α : Type} [ToD α] (x : α) : D := ToD.d x
instance : ToD D := ⟨fun x => x⟩
instance : ToD Int := ⟨D.int⟩
instance : ToD Bool := ⟨D.bl⟩
instance : ToD Unit := ⟨fun _ => .non⟩
instance : ToD Str := ⟨D.str⟩
instance {α : Type} [ToD α] : ToD (List α) := ⟨fun xs => .lst (xs.map ToD.d)⟩
instance {α : Type} [ToD α] : ToD (Option α) := ⟨fun o => match o with | none => .non | some x => ToD.d x⟩
structure T1 (α : Type) where
  a : α
structure T2 (α β : Type) where
  a : α
  b : β
structure T3 (α β γ : Type) where
  a : α
  b : β
  c : γ
structure T4 (α β γ δ : Type) where
  a : α
  b : β
  c : γ
  e : δ
structure Ro (α : Type) where
  xs : List α
structure Tu (α : Type) where
  xs : List α
instance {α : Type} [ToD α] : ToD (T1 α) := ⟨fun x => .tup [ToD.d x.a]⟩
instance {α β : Type} [ToD α] [ToD β] : ToD (T2 α β) := ⟨fun x => .tup [ToD.d x.a, ToD.d x.b]⟩
instance {α β γ : Type} [ToD α] [ToD β] [ToD γ] : ToD (T3 α β γ) := ⟨fun x => .tup [ToD.d x.a, ToD.d x.b, ToD.d x.c]⟩
instance {α β γ δ : Type} [ToD α] [ToD β] [ToD γ] [ToD δ] : ToD (T4 α β γ δ) := ⟨fun x => .tup [ToD.d x.a, ToD.d x.b, ToD.d x.c, ToD.d x.e]⟩
instance {α : Type} [ToD α] : ToD (Ro α) := ⟨fun x => .ro (x.xs.map ToD.d)⟩
instance {α : Type} [ToD α] : ToD (Tu α) := ⟨fun x => .tup (x.xs.map ToD.d)⟩

mutual
def Rep (K : PySem.W.Frag) (F : Hp) : D → V → Prop
  | .non, v => v = .non
  | .bl b, v => v = .bl b
  | .int i, v => v = .int i
  | .str s, v => v = .str s
  | .ty n, v => v = .ty n
  | .tup ds, v => ∃ a vs, v = .ref a ∧ SqT K F a vs ∧ Reps K F ds vs
  | .lst ds, v => ∃ a vs, v = .ref a ∧ F a = some (.lst vs) ∧ Reps K F ds vs
  | .obj c ks ds, v => ∃ a dx vs, v = .ref a ∧ F a = some (.ins (He.ga K c) dx (ks.zip vs)) ∧ ks.length = vs.length ∧ Reps K F ds vs
  | .ro ds, v => ∃ a vs, v = .ref a ∧ SqL K F a vs ∧ Reps K F ds vs
  | .dct ks ds, v => ∃ a vs, v = .ref a ∧ F a = some (.dK ((ks.map Sum.inr).zip vs)) ∧ ks.length = vs.length ∧ Reps K F ds vs ∧ ks.Nodup
def Reps (K : PySem.W.Frag) (F : Hp) : List D → List V → Prop
  | [], vs => vs = []
  | d :: ds, vs => ∃ v r, vs = v :: r ∧ Rep K F d v ∧ Reps K F ds r
end

theorem sq_ex {K : PySem.W.Frag} {F H : Hp} {a : Addr} {xs : List V} (e : Ex F H) (h : F a = some (.lst xs)) : SqL K H a xs := Or.inl (Or.inl (e _ _ h))
mutual
theorem Rep.mono {K : PySem.W.Frag} {F F' : Hp} (e : Ex F F') : ∀ (d : D) (v : V), Rep K F d v → Rep K F' d v
  | .non, v, h => h
  | .bl b, v, h => h
  | .int i, v, h => h
  | .str s, v, h => h
  | .ty n, v, h => h
  | .tup ds, v, h => by
    obtain ⟨a, vs, h1, h2, h3⟩ := h
    exact ⟨a, vs, h1, Evl.ex_t e h2, Reps.mono e ds vs h3⟩
  | .lst ds, v, h => by
    obtain ⟨a, vs, h1, h2, h3⟩ := h
    exact ⟨a, vs, h1, e _ _ h2, Reps.mono e ds vs h3⟩
  | .obj c ks ds, v, h => by
    obtain ⟨a, dx, vs, h1, h2, h3, h4⟩ := h
    exact ⟨a, dx, vs, h1, e _ _ h2, h3, Reps.mono e ds vs h4⟩
  | .ro ds, v, h => by
    obtain ⟨a, vs, h1, h2, h3⟩ := h
    exact ⟨a, vs, h1, Evl.ex_l e h2, Reps.mono e ds vs h3⟩
  | .dct ks ds, v, h => by
    obtain ⟨a, vs, h1, h2, h3, h4, h5⟩ := h
    exact ⟨a, vs, h1, e _ _ h2, h3, Reps.mono e ds vs h4, h5⟩
theorem Reps.mono {K : PySem.W.Frag} {F F' : Hp} (e : Ex F F') : ∀ (ds : List D) (vs : List V), Reps K F ds vs → Reps K F' ds vs
  | [], vs, h => h
  | d :: ds, vs, h => by
    obtain ⟨v, r, h1, h2, h3⟩ := h
    exact ⟨v, r, h1, Rep.mono e d v h2, Reps.mono e ds r h3⟩
end
section
variable {K : PySem.W.Frag} {F F' H H' H1 : Hp}
theorem Reps.length : ∀ {ds : List D} {vs : List V}, Reps K F ds vs → ds.length = vs.length
  | [], vs, h => by rw [show vs = [] from h]; rfl
  | d :: ds, vs, h => by
    obtain ⟨v, r, rfl, _, h3⟩ := h
    simp [Reps.length h3]
theorem Reps.get : ∀ {ds : List D} {vs : List V} {i : Nat} {e : D}, Reps K F ds vs → ds[i]? = some e → ∃ v, vs[i]? = some v ∧ Rep K F e v
  | [], vs, i, e, h, q => by simp at q
  | d :: ds, vs, 0, e, h, q => by
    obtain ⟨v, r, rfl, h2, h3⟩ := h
    simp at q; subst q
    exact ⟨v, rfl, h2⟩
  | d :: ds, vs, i + 1, e, h, q => by
    obtain ⟨v, r, rfl, h2, h3⟩ := h
    simp at q
    obtain ⟨w, a, b⟩ := Reps.get h3 q
    exact ⟨w, by simpa using a, b⟩
theorem Reps.append : ∀ {ds es : List D} {vs ws : List V}, Reps K F ds vs → Reps K F es ws → Reps K F (ds ++ es) (vs ++ ws)
  | [], es, vs, ws, h, q => by rw [show vs = [] from h]; exact q
  | d :: ds, es, vs, ws, h, q => by
    obtain ⟨v, r, rfl, h2, h3⟩ := h
    exact ⟨v, r ++ ws, rfl, h2, Reps.append h3 q⟩
theorem Reps.one {e : D} {v : V} (h : Rep K F e v) : Reps K F [e] [v] := ⟨v, [], rfl, h, rfl⟩
theorem Reps.set : ∀ {ds : List D} {vs : List V} (i : Nat) {e : D} {v : V}, Reps K F ds vs → Rep K F e v → Reps K F (ds.set i e) (vs.set i v)
  | [], vs, i, e, v, h, q => by rw [show vs = [] from h]; exact rfl
  | d :: ds, vs, 0, e, v, h, q => by
    obtain ⟨w, r, rfl, h2, h3⟩ := h
    exact ⟨v, r, rfl, q, h3⟩
  | d :: ds, vs, i + 1, e, v, h, q => by
    obtain ⟨w, r, rfl, h2, h3⟩ := h
    exact ⟨w, r.set i v, rfl, h2, Reps.set i h3 q⟩
theorem Reps.drop : ∀ {ds : List D} {vs : List V} (i : Nat), Reps K F ds vs → Reps K F (ds.drop i) (vs.drop i)
  | [], vs, i, h => by rw [show vs = [] from h]; simp [Reps]
  | d :: ds, vs, 0, h => h
  | d :: ds, vs, i + 1, h => by
    obtain ⟨w, r, rfl, h2, h3⟩ := h
    exact Reps.drop i h3
theorem Reps.take : ∀ {ds : List D} {vs : List V} (i : Nat), Reps K F ds vs → Reps K F (ds.take i) (vs.take i)
  | [], vs, i, h => by rw [show vs = [] from h]; simp [Reps]
  | d :: ds, vs, 0, h => by simp [Reps]
  | d :: ds, vs, i + 1, h => by
    obtain ⟨w, r, rfl, h2, h3⟩ := h
    exact ⟨w, r.take i, rfl, h2, Reps.take i h3⟩
theorem Reps.reverse : ∀ {ds : List D} {vs : List V}, Reps K F ds vs → Reps K F ds.reverse vs.reverse
  | [], vs, h => by rw [show vs = [] from h]; simp [Reps]
  | d :: ds, vs, h => by
    obtain ⟨w, r, rfl, h2, h3⟩ := h
    rw [List.reverse_cons, List.reverse_cons]
    exact Reps.append (Reps.reverse h3) (Reps.one h2)
theorem Reps.ints : ∀ {ns : List Int} {vs : List V}, Reps K F (ns.map D.int) vs → vs = ns.map V.int
  | [], vs, h => h
  | n :: ns, vs, h => by
    obtain ⟨w, r, rfl, h2, h3⟩ := h
    rw [show w = V.int n from h2, Reps.ints h3]; rfl
theorem Reps.of_ints : ∀ (ns : List Int), Reps K F (ns.map D.int) (ns.map V.int)
  | [] => rfl
  | n :: ns => ⟨_, _, rfl, rfl, Reps.of_ints ns⟩
theorem Reps.bls : ∀ {ns : List Bool} {vs : List V}, Reps K F (ns.map D.bl) vs → vs = ns.map V.bl
  | [], vs, h => h
  | n :: ns, vs, h => by
    obtain ⟨w, r, rfl, h2, h3⟩ := h
    rw [show w = V.bl n from h2, Reps.bls h3]; rfl
theorem Reps.strs : ∀ {ns : List Str} {vs : List V}, Reps K F (ns.map D.str) vs → vs = ns.map V.str
  | [], vs, h => h
  | n :: ns, vs, h => by
    obtain ⟨w, r, rfl, h2, h3⟩ := h
    rw [show w = V.str n from h2, Reps.strs h3]; rfl

/-! ### how the heap goes on -/
structure Adv (F H F' H' : Hp) : Prop where
  f : Ex F F'
  h : Ex H H'
  in_ : Ex F' H'
  out : ∀ p, F p = none → H p ≠ none → F' p = none
theorem Adv.refl (e : Ex F H) : Adv F H F H := ⟨Ex.refl F, Ex.refl H, e, fun _ h _ => h⟩
theorem Adv.trans {F1 H1 F2 H2 F3 H3 : Hp} (a : Adv F1 H1 F2 H2) (b : Adv F2 H2 F3 H3) : Adv F1 H1 F3 H3 :=
  ⟨a.f.trans b.f, a.h.trans b.h, b.in_, fun p h1 h2 => b.out p (a.out p h1 h2) fun z => h2 (Evl.fresh_back a.h z)⟩
theorem none_of_ex (e : Ex F H) {p : Addr} (h : H p = none) : F p = none := Evl.fresh_back e h
theorem Adv.new {p : Addr} {o : HO} (e : Ex F H) (h : H p = none) : Adv F H (upd F p o) (upd H p o) := by
  refine ⟨Ex.new (none_of_ex e h), Ex.new h, fun a u q => ?_, fun q h1 h2 => ?_⟩
  · by_cases z : a = p
    · subst z; rw [upd_same] at q ⊢; exact q
    · rw [upd_ne z] at q ⊢; exact e a u q
  · have z : q ≠ p := fun z => h2 (by rw [z]; exact h)
    rw [upd_ne z]; exact h1
/-- a new object, not frozen -/
theorem Adv.newO {p : Addr} {o : HO} (e : Ex F H) (h : H p = none) : Adv F H F (upd H p o) :=
  ⟨Ex.refl F, Ex.new h, fun a u q => (Ex.new h) a u (e a u q), fun _ h1 _ => h1⟩
end

/-! ### what a def gives -/
inductive Res (α : Type) where
  | ok (x : α) | exc (c : Str) | stuck
namespace Res
def bind {α β : Type} : Res α → (α → Res β) → Res β
  | .ok x, f => f x
  | .exc c, _ => .exc c
  | .stuck, _ => .stuck
theorem bind_ok {α β : Type} (x : α) (f : α → Res β) : (Res.ok x).bind f = f x := rfl
theorem bind_pure {α : Type} (m : Res α) : m.bind Res.ok = m := by cases m <;> rfl
/-- a condition that must hold -/
@[irreducible] noncomputable def need {α : Type} (p : Prop) (m : Res α) : Res α := @ite _ p (Classical.propDecidable p) m .stuck
theorem need_pos {α : Type} {p : Prop} {m : Res α} (h : p) : need p m = m := by unfold need; exact if_pos h
theorem need_neg {α : Type} {p : Prop} {m : Res α} (h : ¬ p) : need p m = .stuck := by unfold need; exact if_neg h
def map {α β : Type} (f : α → β) (m : Res α) : Res β := m.bind fun x => .ok (f x)
end Res

/-! ### slots -/
inductive Sk where
  | im (e : D) | ow (xs : List D) | raw (v : V) | oi (p : Option Addr) (c : Str) (ks : List Str) (ds : List D)
/-- what only this frame knows -/
def Sk.own : Sk → Bool
  | .ow _ => true
  | .oi _ _ _ _ => true
  | _ => false
abbrev En := List (Option Sk)
def SkOk (K : PySem.W.Frag) (H0 F H : Hp) : Sk → V → Prop
  | .im e, v => Rep K F e v
  | .ow xs, v => ∃ p vs, v = .ref p ∧ H0 p = none ∧ F p = none ∧ H p = some (.lst vs) ∧ Reps K F xs vs
  | .raw w, v => v = w
  | .oi pp c ks ds, v => ∃ p dx vs, v = .ref p ∧ H0 p = none ∧ F p = none ∧ H p = some (.ins (He.ga K c) dx (ks.zip vs)) ∧ ks.length = vs.length ∧ Reps K F ds vs ∧ ∀ a, pp = some a → p = a
structure Sl (K : PySem.W.Frag) (F0 H0 F H : Hp) (σ : L2.St) (env : En) : Prop where
  adv : Adv F0 H0 F H
  slot : ∀ (i : Nat) (sk : Sk), env[i]? = some (some sk) → ∃ v, σ[i]? = some (some v) ∧ SkOk K H0 F H sk v
  dis : ∀ (i j : Nat) (sk sk' : Sk) (p : Addr), i ≠ j → env[i]? = some (some sk) → env[j]? = some (some sk') → sk.own = true → sk'.own = true → σ[i]? = some (some (.ref p)) → σ[j]? ≠ some (some (.ref p))
  len : σ.length = env.length
section
variable {K : PySem.W.Frag} {F0 H0 F H F' H' : Hp} {σ : L2.St} {env : En}
theorem Sl.ex (S : Sl K F0 H0 F H σ env) : Ex F H := S.adv.in_
theorem SkOk.adv {sk : Sk} {v : V} (a : Adv F H F' H') (h : SkOk K H0 F H sk v) : SkOk K H0 F' H' sk v := by
  cases sk with
  | im e => exact Rep.mono a.f _ _ h
  | ow xs =>
    obtain ⟨p, vs, e1, e2, e3, e4, e5⟩ := h
    exact ⟨p, vs, e1, e2, a.out p e3 (by rw [e4]; simp), a.h _ _ e4, Reps.mono a.f _ _ e5⟩
  | raw w => exact h
  | oi pp c ks ds =>
    obtain ⟨p, dx, vs, e1, e2, e3, e4, e5, e6, e7⟩ := h
    exact ⟨p, dx, vs, e1, e2, a.out p e3 (by rw [e4]; simp), a.h _ _ e4, e5, Reps.mono a.f _ _ e6, e7⟩
theorem SkOk.at {sk : Sk} {v : V} (ho : sk.own = true) (h : SkOk K H0 F H sk v) : ∃ p o, v = .ref p ∧ H0 p = none ∧ F p = none ∧ H p = some o := by
  cases sk with
  | im e => cases ho
  | raw w => cases ho
  | ow xs =>
    obtain ⟨p, vs, e1, e2, e3, e4, e5⟩ := h
    exact ⟨p, _, e1, e2, e3, e4⟩
  | oi pp c ks ds =>
    obtain ⟨p, dx, vs, e1, e2, e3, e4, e5, e6, e7⟩ := h
    exact ⟨p, _, e1, e2, e3, e4⟩
theorem SkOk.updH {sk : Sk} {v : V} {p : Addr} {o : HO} (hn : sk.own = true → v ≠ .ref p) (h : SkOk K H0 F H sk v) : SkOk K H0 F (upd H p o) sk v := by
  cases sk with
  | im e => exact h
  | raw w => exact h
  | ow xs =>
    obtain ⟨q, vs, e1, e2, e3, e4, e5⟩ := h
    have hne : q ≠ p := fun z => hn rfl (by rw [e1, z])
    exact ⟨q, vs, e1, e2, e3, by rw [upd_ne hne]; exact e4, e5⟩
  | oi pp c ks ds =>
    obtain ⟨q, dx, vs, e1, e2, e3, e4, e5, e6, e7⟩ := h
    have hne : q ≠ p := fun z => hn rfl (by rw [e1, z])
    exact ⟨q, dx, vs, e1, e2, e3, by rw [upd_ne hne]; exact e4, e5, e6, e7⟩
theorem SkOk.updF {sk : Sk} {v : V} {p : Addr} {o : HO} (hf : F p = none) (hn : sk.own = true → v ≠ .ref p) (h : SkOk K H0 F H sk v) : SkOk K H0 (upd F p o) H sk v := by
  have ad : Ex F (upd F p o) := Ex.new hf
  cases sk with
  | im e => exact Rep.mono ad _ _ h
  | raw w => exact h
  | ow xs =>
    obtain ⟨q, vs, e1, e2, e3, e4, e5⟩ := h
    have hne : q ≠ p := fun z => hn rfl (by rw [e1, z])
    exact ⟨q, vs, e1, e2, by rw [upd_ne hne]; exact e3, e4, Reps.mono ad _ _ e5⟩
  | oi pp c ks ds =>
    obtain ⟨q, dx, vs, e1, e2, e3, e4, e5, e6, e7⟩ := h
    have hne : q ≠ p := fun z => hn rfl (by rw [e1, z])
    exact ⟨q, dx, vs, e1, e2, by rw [upd_ne hne]; exact e3, e4, e5, Reps.mono ad _ _ e6, e7⟩
theorem Sl.step (S : Sl K F0 H0 F H σ env) (a : Adv F H F' H') : Sl K F0 H0 F' H' σ env := by
  refine ⟨S.adv.trans a, fun i sk e => ?_, S.dis, S.len⟩
  obtain ⟨v, h1, h2⟩ := S.slot i sk e
  exact ⟨v, h1, h2.adv a⟩
theorem set_get {α : Type} {l : List α} {i j : Nat} {x y : α} (h : (l.set i x)[j]? = some y) : (i = j ∧ x = y) ∨ (i ≠ j ∧ l[j]? = some y) := by
  rw [List.getElem?_set] at h
  by_cases e : i = j
  · rw [if_pos e] at h
    split at h
    · exact .inl ⟨e, Option.some.inj h⟩
    · cases h
  · rw [if_neg e] at h
    exact .inr ⟨e, h⟩
theorem set_len {α : Type} {l : List α} {i : Nat} {x y : α} (h : (l.set i x)[i]? = some y) : i < l.length := by
  have h := (List.getElem?_eq_some_iff.mp h).1
  rwa [List.length_set] at h
theorem Sl.setIm (S : Sl K F0 H0 F H σ env) {i : Nat} {e : D} {v : V} (r : Rep K F e v) : Sl K F0 H0 F H (σ.set i (some v)) (env.set i (some (.im e))) := by
  refine ⟨S.adv, fun j sk q => ?_, fun j k sk sk' p hjk e1 e2 o1 o2 h1 => ?_, by rw [List.length_set, List.length_set]; exact S.len⟩
  · rcases set_get q with ⟨rfl, z⟩ | ⟨z, q⟩
    · cases z
      refine ⟨v, ?_, r⟩
      have hi : i < env.length := set_len q
      rw [List.getElem?_set_self (by rw [S.len]; exact hi)]
    · obtain ⟨w, h1, h2⟩ := S.slot j sk q
      exact ⟨w, by rw [List.getElem?_set_ne z]; exact h1, h2⟩
  · rcases set_get e1 with ⟨_, z⟩ | ⟨z1, e1⟩
    · cases z; cases o1
    rcases set_get e2 with ⟨_, z⟩ | ⟨z2, e2⟩
    · cases z; cases o2
    rw [List.getElem?_set_ne z1] at h1
    rw [List.getElem?_set_ne z2]
    exact S.dis j k sk sk' p hjk e1 e2 o1 o2 h1
/-- a new owned object -/
theorem Sl.setOwn (S : Sl K F0 H0 F H σ env) {i : Nat} {p : Addr} {sk : Sk} (hs : SkOk K H0 F H sk (.ref p)) (hn : ∀ (j : Nat) (sk' : Sk), env[j]? = some (some sk') → sk'.own = true → σ[j]? ≠ some (some (V.ref p))) :
    Sl K F0 H0 F H (σ.set i (some (.ref p))) (env.set i (some sk)) := by
  refine ⟨S.adv, fun j sk q => ?_, fun j k sk1 sk2 p' hjk e1 e2 o1 o2 h1 => ?_, by rw [List.length_set, List.length_set]; exact S.len⟩
  · rcases set_get q with ⟨rfl, z⟩ | ⟨z, q⟩
    · cases z
      refine ⟨_, ?_, hs⟩
      have hi : i < env.length := set_len q
      rw [List.getElem?_set_self (by rw [S.len]; exact hi)]
    · obtain ⟨w, h1, h2⟩ := S.slot j sk q
      exact ⟨w, by rw [List.getElem?_set_ne z]; exact h1, h2⟩
  · rcases set_get e1 with ⟨z0, z⟩ | ⟨z1, e1⟩
    · rcases set_get e2 with ⟨z2, _⟩ | ⟨z2, e2⟩
      · exact absurd (z0.symm.trans z2) hjk
      · subst z0
        rw [List.getElem?_set_ne z2]
        have hi : i < σ.length := set_len h1
        rw [List.getElem?_set_self hi] at h1
        cases h1
        exact hn k sk2 e2 o2
    · rw [List.getElem?_set_ne z1] at h1
      rcases set_get e2 with ⟨z2, z⟩ | ⟨z2, e2⟩
      · subst z2
        intro q
        have hi : i < σ.length := set_len q
        rw [List.getElem?_set_self hi] at q
        cases q
        exact hn j sk1 e1 o1 h1
      · rw [List.getElem?_set_ne z2]
        exact S.dis j k sk1 sk2 p' hjk e1 e2 o1 o2 h1
theorem Sl.setOw (S : Sl K F0 H0 F H σ env) {i : Nat} {p : Addr} {xs : List D} {vs : List V} (h0 : H0 p = none) (hf : F p = none) (hp : H p = some (.lst vs)) (hn : ∀ (j : Nat) (sk' : Sk), env[j]? = some (some sk') → sk'.own = true → σ[j]? ≠ some (some (V.ref p))) (r : Reps K F xs vs) :
    Sl K F0 H0 F H (σ.set i (some (.ref p))) (env.set i (some (.ow xs))) := S.setOwn ⟨p, vs, rfl, h0, hf, hp, r⟩ hn
/-- an owned object changes -/
theorem Sl.chgO (S : Sl K F0 H0 F H σ env) {i : Nat} {p : Addr} {sk sk' : Sk} {o : HO} (e : env[i]? = some (some sk)) (ho : sk.own = true) (hs : σ[i]? = some (some (.ref p))) (hp : F p = none) (h0 : H0 p = none) (hk : SkOk K H0 F (upd H p o) sk' (.ref p)) :
    Sl K F0 H0 F (upd H p o) σ (env.set i (some sk')) := by
  refine ⟨⟨S.adv.f, fun a u q => ?_, fun a u q => ?_, S.adv.out⟩, fun j sk q => ?_, fun j k sk1 sk2 p' hjk e1 e2 o1 o2 h1 => ?_, by rw [List.length_set]; exact S.len⟩
  · rw [upd_ne (ne_of_none q h0)]; exact S.adv.h a u q
  · rw [upd_ne (ne_of_none q hp)]; exact S.adv.in_ a u q
  · rcases set_get q with ⟨rfl, z⟩ | ⟨z, q⟩
    · cases z
      exact ⟨_, hs, hk⟩
    · obtain ⟨w, h1, h2⟩ := S.slot j sk q
      exact ⟨w, h1, h2.updH fun o2 zz => S.dis i j _ _ p z e q ho o2 hs (by rw [h1, zz])⟩
  · have own : ∀ {j : Nat} {s : Sk}, (env.set i (some sk'))[j]? = some (some s) → s.own = true → ∃ s', env[j]? = some (some s') ∧ s'.own = true := by
      intro j s q o
      rcases set_get q with ⟨rfl, _⟩ | ⟨_, q⟩
      · exact ⟨_, e, ho⟩
      · exact ⟨_, q, o⟩
    obtain ⟨_, q1, r1⟩ := own e1 o1
    obtain ⟨_, q2, r2⟩ := own e2 o2
    exact S.dis j k _ _ p' hjk q1 q2 r1 r2 h1
theorem Sl.chg (S : Sl K F0 H0 F H σ env) {i : Nat} {p : Addr} {xs ys : List D} {ws : List V} (e : env[i]? = some (some (.ow xs))) (hs : σ[i]? = some (some (.ref p))) (hp : F p = none) (h0 : H0 p = none) (r : Reps K F ys ws) :
    Sl K F0 H0 F (upd H p (.lst ws)) σ (env.set i (some (.ow ys))) := S.chgO e rfl hs hp h0 ⟨p, ws, rfl, h0, hp, upd_same, r⟩
/-- an owned object is frozen -/
theorem Sl.freezeO (S : Sl K F0 H0 F H σ env) {i : Nat} {sk : Sk} {d : D} (e : env[i]? = some (some sk)) (ho : sk.own = true) (hd : ∀ p o, SkOk K H0 F H sk (.ref p) → H p = some o → F p = none → Rep K (upd F p o) d (.ref p)) : ∃ F', Ex F F' ∧ Sl K F0 H0 F' H σ (env.set i (some (.im d))) := by
  obtain ⟨v, hs, hk⟩ := S.slot i _ e
  obtain ⟨p, o, rfl, h0, hf, hp⟩ := hk.at ho
  have ad : Ex F (upd F p o) := Ex.new hf
  have inn : Ex (upd F p o) H := fun a u q => by
    by_cases z : a = p
    · subst z; rw [upd_same] at q; cases q; exact hp
    · rw [upd_ne z] at q; exact S.ex a u q
  refine ⟨upd F p o, ad, ⟨⟨S.adv.f.trans ad, S.adv.h, inn, fun a h1 h2 => ?_⟩, fun j sk q => ?_, fun j k sk1 sk2 p' hjk e1 e2 o1 o2 h1 => ?_, by rw [List.length_set]; exact S.len⟩⟩
  · have z : a ≠ p := fun z => h2 (by rw [z]; exact h0)
    rw [upd_ne z]; exact S.adv.out a h1 h2
  · rcases set_get q with ⟨rfl, z⟩ | ⟨z, q⟩
    · cases z
      exact ⟨_, hs, hd p o hk hp hf⟩
    · obtain ⟨w, h1, h2⟩ := S.slot j sk q
      exact ⟨w, h1, h2.updF hf fun o2 zz => S.dis i j _ _ p z e q ho o2 hs (by rw [h1, zz])⟩
  · have own : ∀ {j : Nat} {s : Sk}, (env.set i (some (.im d)))[j]? = some (some s) → s.own = true → env[j]? = some (some s) := by
      intro j s q o
      rcases set_get q with ⟨rfl, z⟩ | ⟨_, q⟩
      · cases z; cases o
      · exact q
    exact S.dis j k _ _ p' hjk (own e1 o1) (own e2 o2) o1 o2 h1
theorem Sl.freeze (S : Sl K F0 H0 F H σ env) {i : Nat} {xs : List D} (e : env[i]? = some (some (.ow xs))) : ∃ F', Ex F F' ∧ Sl K F0 H0 F' H σ (env.set i (some (.im (.lst xs)))) :=
  S.freezeO e rfl fun p o h hp hf => by
    obtain ⟨q, vs, e1, _, _, e4, e5⟩ := h
    cases e1
    rw [hp] at e4; cases e4
    exact ⟨_, vs, rfl, upd_same, Reps.mono (Ex.new hf) _ _ e5⟩
end
end Mi
set_option maxHeartbeats 1000000
namespace Mi
open PySem PySem.Spec L2
open Evl (Ex)

class ToDs (β : Type) where
  ds : β → List D
instance : ToDs Unit := ⟨fun _ => []⟩
instance {α β : Type} [ToD α] [ToDs β] : ToDs (α × β) := ⟨fun p => ToD.d p.1 :: ToDs.ds p.2⟩

/-! ### what follows a value -/
section
variable (K : PySem.W.Frag) (W : WX) (F H : Hp) (σ : L2.St)
def KE {α : Type} [ToD α] (Q : VK) : Res α → Prop
  | .ok x => ∀ v F' H', Adv F H F' H' → Rep K F' (toD x) v → Q v H'
  | .exc c => ∀ F' H', Adv F H F' H' → W (.ref (He.ga K c)) none σ H'
  | .stuck => False
def KA {β : Type} [ToDs β] (Q : List V → Hp → Prop) : Res β → Prop
  | .ok x => ∀ vs F' H', Adv F H F' H' → Reps K F' (ToDs.ds x) vs → Q vs H'
  | .exc c => ∀ F' H', Adv F H F' H' → W (.ref (He.ga K c)) none σ H'
  | .stuck => False
def KT (Q : Bool → Hp → Prop) : Res Bool → Prop
  | .ok b => ∀ F' H', Adv F H F' H' → Q b H'
  | .exc c => ∀ F' H', Adv F H F' H' → W (.ref (He.ga K c)) none σ H'
  | .stuck => False
def KN {α : Type} [ToD α] (Q : VK) : Res (List α) → Prop
  | .ok xs => ∀ p vs F' H', Adv F H F' H' → H p = none → F' p = none → H' p = some (.lst vs) → Reps K F' (xs.map toD) vs → Q (.ref p) H'
  | .exc c => ∀ F' H', Adv F H F' H' → W (.ref (He.ga K c)) none σ H'
  | .stuck => False
end
def EvX (K : PySem.W.Frag) (W : WX) (env : En) (te : TE) {α : Type} [ToD α] (m : Res α) : Prop :=
  ∀ F0 H0 F H σ Q, Sl K F0 H0 F H σ env → KE K W F H σ Q m → te σ H Q
def EvA (K : PySem.W.Frag) (W : WX) (env : En) (ta : TA) {β : Type} [ToDs β] (m : Res β) : Prop :=
  ∀ F0 H0 F H σ Q, Sl K F0 H0 F H σ env → KA K W F H σ Q m → ta σ H Q
def EvT (K : PySem.W.Frag) (W : WX) (env : En) (tt : TT) (m : Res Bool) : Prop :=
  ∀ F0 H0 F H σ Q, Sl K F0 H0 F H σ env → KT K W F H σ Q m → tt σ H Q
def EvN (K : PySem.W.Frag) (W : WX) (env : En) (te : TE) {α : Type} [ToD α] (m : Res (List α)) : Prop :=
  ∀ F0 H0 F H σ Q, Sl K F0 H0 F H σ env → KN K W F H σ Q m → te σ H Q

section
variable {K : PySem.W.Frag} {W : WX} {F H F' H' : Hp} {σ : L2.St} {env : En} {α β γ τ : Type} [ToD α] [ToD β] [ToD γ] [ToD τ] {ta tb te tc : TE} {tt tu : TT} {r : R2}

/-- from what follows a whole to what follows its first part -/
theorem KE.cut {Q : VK} {Q1 : VK} {m : Res α} {f : α → Res β} (ex : Ex F H) (h : KE K W F H σ Q (m.bind f))
    (k : ∀ x v F' H', m = .ok x → Adv F H F' H' → Rep K F' (toD x) v → KE K W F' H' σ Q (f x) → Q1 v H') : KE K W F H σ Q1 m := by
  cases m with
  | ok x =>
    intro v F1 H1 a r
    refine k x v F1 H1 rfl a r ?_
    have h : KE K W F H σ Q (f x) := h
    revert h
    generalize f x = y
    intro h
    cases y with
    | ok y => exact fun v F2 H2 b q => h v F2 H2 (a.trans b) q
    | exc c => exact fun F2 H2 b => h F2 H2 (a.trans b)
    | stuck => exact h.elim
  | exc c => exact h
  | stuck => exact h.elim
theorem KE.adv {Q : VK} {m : Res β} (a : Adv F H F' H') (h : KE K W F H σ Q m) : KE K W F' H' σ Q m := by
  cases m with
  | ok y => exact fun v F2 H2 b q => h v F2 H2 (a.trans b) q
  | exc c => exact fun F2 H2 b => h F2 H2 (a.trans b)
  | stuck => exact h.elim
theorem KT.adv {Q : Bool → Hp → Prop} {m : Res Bool} (a : Adv F H F' H') (h : KT K W F H σ Q m) : KT K W F' H' σ Q m := by
  cases m with
  | ok y => exact fun F2 H2 b => h F2 H2 (a.trans b)
  | exc c => exact fun F2 H2 b => h F2 H2 (a.trans b)
  | stuck => exact h.elim
theorem KA.adv {δ : Type} [ToDs δ] {Q : List V → Hp → Prop} {m : Res δ} (a : Adv F H F' H') (h : KA K W F H σ Q m) : KA K W F' H' σ Q m := by
  cases m with
  | ok y => exact fun v F2 H2 b q => h v F2 H2 (a.trans b) q
  | exc c => exact fun F2 H2 b => h F2 H2 (a.trans b)
  | stuck => exact h.elim

/-! ### names and constants -/
theorem ev_var {i : Nat} {x : α} (h : env[i]? = some (some (.im (toD x)))) : EvX K W env (tVar i) (.ok x) := fun F0 H0 F H σ Q S k => by
  obtain ⟨v, e, q⟩ := S.slot i _ h
  exact ⟨v, e, k v F H (Adv.refl S.ex) q⟩
theorem ev_int {i : Int} : EvX K W env (tC (.int i)) (.ok i) := fun F0 H0 F H σ Q S k => k _ F H (Adv.refl S.ex) rfl
theorem ev_bl {b : Bool} : EvX K W env (tC (.bl b)) (.ok b) := fun F0 H0 F H σ Q S k => k _ F H (Adv.refl S.ex) rfl
theorem ev_str {x : Str} : EvX K W env (tC (.str x)) (.ok x) := fun F0 H0 F H σ Q S k => k _ F H (Adv.refl S.ex) rfl
theorem ev_non : EvX K W env (tC .non) (.ok ()) := fun F0 H0 F H σ Q S k => k _ F H (Adv.refl S.ex) rfl
/-- the same value in another type -/
theorem ev_as {m : Res α} {m' : Res β} (h : EvX K W env te m) (f : α → β) (e : ∀ x, toD (f x) = toD x) (em : m.bind (fun x => .ok (f x)) = m') : EvX K W env te m' := fun F0 H0 F H σ Q S k => by
  refine h F0 H0 F H σ Q S ?_
  subst em
  cases m with
  | ok x => intro v F' H' a q; exact k v F' H' a (by rw [e]; exact q)
  | exc c => exact k
  | stuck => exact k.elim

/-! ### operators -/
def OpX (K : PySem.W.Frag) (r : R2) (f : α → β → Res γ) : Prop := ∀ (F H : Hp) (x : α) (y : β) (v u : V) (Q : VK), Ex F H → Rep K F (toD x) v → Rep K F (toD y) u →
  KE K (fun _ _ _ _ => False) F H [] Q (f x y) → r v u H Q
/-- operators let nothing out -/
def Mild (f : α → β → Res γ) : Prop := ∀ x y c, f x y ≠ .exc c
theorem KE.mild {Q : VK} {m : Res γ} (hm : ∀ c, m ≠ .exc c) (h : KE K W F H σ Q m) : KE K (fun _ _ _ _ => False) F H [] Q m := by
  cases m with
  | ok x => exact h
  | exc c => exact absurd rfl (hm c)
  | stuck => exact h.elim
theorem ev_op {m1 : Res α} {m2 : Res β} {f : α → β → Res γ} (ho : OpX K r f) (hm : Mild f) (ha : EvX K W env ta m1) (hb : EvX K W env tb m2) :
    EvX K W env (tOp r ta tb) (m1.bind fun x => m2.bind fun y => f x y) := fun F0 H0 F H σ Q S k => by
  refine ha F0 H0 F H σ _ S (KE.cut S.ex k fun x v F1 H1 e1 a1 r1 k1 => ?_)
  refine hb F0 H0 F1 H1 σ _ (S.step a1) (KE.cut a1.in_ k1 fun y u F2 H2 e2 a2 r2 k2 => ?_)
  exact ho F2 H2 x y v u Q a2.in_ (Rep.mono a2.f _ _ r1) r2 (k2.mild (hm x y))
theorem mild_ok {g : α → β → γ} : Mild (fun x y => Res.ok (g x y)) := fun _ _ _ h => nomatch h
theorem mild_need {p : α → β → Prop} {g : α → β → γ} : Mild (fun x y => Res.need (p x y) (.ok (g x y))) := fun x y c h => by
  by_cases q : p x y
  · have h : Res.need (p x y) (.ok (g x y)) = .exc c := h
    rw [Res.need_pos q] at h; cases h
  · have h : Res.need (p x y) (.ok (g x y)) = .exc c := h
    rw [Res.need_neg q] at h; cases h
theorem opx_I0 {g : Int → Int → Int} : OpX K (rI0 fun i j => .int (g i j)) (fun i j => .ok (g i j)) := fun F H x y v u Q e h1 h2 k =>
  ⟨x, y, h1, h2, k _ F H (Adv.refl e) rfl⟩
theorem opx_B0 {g : Int → Int → Bool} : OpX K (rI0 fun i j => .bl (g i j)) (fun i j => .ok (g i j)) := fun F H x y v u Q e h1 h2 k =>
  ⟨x, y, h1, h2, k _ F H (Adv.refl e) rfl⟩
theorem opx_I {C : Int → Int → Prop} {g : Int → Int → Int} : OpX K (rI C fun i j => .int (g i j)) (fun i j => .need (C i j) (.ok (g i j))) := fun F H x y v u Q e h1 h2 k => by
  by_cases c : C x y
  · have k : KE K (fun _ _ _ _ => False) F H [] Q (Res.need (C x y) (.ok (g x y))) := k
    rw [Res.need_pos c] at k
    exact ⟨x, y, h1, h2, c, k _ F H (Adv.refl e) rfl⟩
  · have k : KE K (fun _ _ _ _ => False) F H [] Q (Res.need (C x y) (.ok (g x y))) := k
    rw [Res.need_neg c] at k
    exact k.elim
/-- the same where the condition is known -/
theorem ev_opI {m1 m2 : Res Int} {C : Int → Int → Prop} {g : Int → Int → Int} (hc : ∀ x y, m1 = .ok x → m2 = .ok y → C x y) (ha : EvX K W env ta m1) (hb : EvX K W env tb m2) :
    EvX K W env (tOp (rI C fun i j => .int (g i j)) ta tb) (m1.bind fun x => m2.bind fun y => .ok (g x y)) := fun F0 H0 F H σ Q S k => by
  refine ha F0 H0 F H σ _ S (KE.cut S.ex k fun x v F1 H1 e1 a1 r1 k1 => ?_)
  refine hb F0 H0 F1 H1 σ _ (S.step a1) (KE.cut a1.in_ k1 fun y u F2 H2 e2 a2 r2 k2 => ?_)
  exact ⟨x, y, r1, r2, hc x y e1 e2, k2 _ F2 H2 (Adv.refl a2.in_) rfl⟩
theorem ev_un {m1 : Res Int} {g : Int → Int} (ha : EvX K W env ta m1) : EvX K W env (tUn (rU fun i => .int (g i)) ta) (m1.bind fun x => .ok (g x)) := fun F0 H0 F H σ Q S k => by
  refine ha F0 H0 F H σ _ S (KE.cut S.ex k fun x v F1 H1 e1 a1 r1 k1 => ?_)
  exact ⟨x, r1, k1 _ F1 H1 (Adv.refl a1.in_) rfl⟩
/-- == of two ints, two bools, two texts -/
theorem opx_eqI : OpX K rEq (fun (i j : Int) => .ok (decide (i = j))) := fun F H x y v u Q e h1 h2 k => by
  cases (show v = V.int x from h1); cases (show u = V.int y from h2)
  refine ⟨rfl, ?_⟩
  rw [show decide (V.int x = V.int y) = decide (x = y) by rw [dec_int]; rfl]
  exact k _ F H (Adv.refl e) rfl
theorem opx_neI : OpX K rNe (fun (i j : Int) => .ok (!decide (i = j))) := fun F H x y v u Q e h1 h2 k => by
  cases (show v = V.int x from h1); cases (show u = V.int y from h2)
  refine ⟨rfl, ?_⟩
  rw [show decide (V.int x = V.int y) = decide (x = y) by rw [dec_int]; rfl]
  exact k _ F H (Adv.refl e) rfl
theorem opx_neB : OpX K rNe (fun (i j : Bool) => .ok (!(i == j))) := fun F H x y v u Q e h1 h2 k => by
  cases (show v = V.bl x from h1); cases (show u = V.bl y from h2)
  refine ⟨rfl, ?_⟩
  rw [dec_bl]
  exact k _ F H (Adv.refl e) rfl
theorem opx_eqS : OpX K rEq (fun (i j : Str) => .ok (i == j)) := fun F H x y v u Q e h1 h2 k => by
  cases (show v = V.str x from h1); cases (show u = V.str y from h2)
  refine ⟨rfl, ?_⟩
  rw [dec_str]
  exact k _ F H (Adv.refl e) rfl
def D.isNon : D → Bool
  | .non => true
  | _ => false
/-! ### == of data -/
mutual
def D.py : D → PyData
  | .non => .none
  | .bl b => .bool b
  | .int i => .int i
  | .str s => .str s
  | .ty _ => .none
  | .tup xs => .tuple (pyL xs)
  | .lst xs => .list (pyL xs)
  | .obj _ _ _ => .none
  | .ro _ => .none
  | .dct _ _ => .none
def pyL : List D → List PyData
  | [] => []
  | x :: xs => D.py x :: pyL xs
end
mutual
/-- no objects, no classes within -/
def D.flat : D → Bool
  | .ty _ => false
  | .obj _ _ _ => false
  | .ro _ => false
  | .dct _ _ => false
  | .tup xs => flatL xs
  | .lst xs => flatL xs
  | _ => true
def flatL : List D → Bool
  | [] => true
  | x :: xs => D.flat x && flatL xs
end
mutual
theorem dp_of : ∀ {x : D} {v : V}, Rep K F x v → x.flat = true → Dp K F v x.py
  | .non, v, h, _ => by rw [show v = V.non from h]; exact .non
  | .bl b, v, h, _ => by rw [show v = V.bl b from h]; exact .bl b
  | .int b, v, h, _ => by rw [show v = V.int b from h]; exact .int b
  | .str b, v, h, _ => by rw [show v = V.str b from h]; exact .str b
  | .ty b, v, h, q => by cases q
  | .tup ds, v, h, q => by obtain ⟨a, vs, rfl, h2, h3⟩ := h; exact .tup h2 (dps_of h3 q)
  | .lst ds, v, h, q => by obtain ⟨a, vs, rfl, h2, h3⟩ := h; exact .lst (Evl.sq_of h2) (dps_of h3 q)
  | .obj c ks ds, v, h, q => by cases q
  | .ro ds, v, h, q => by cases q
  | .dct ks ds, v, h, q => by cases q
theorem dps_of : ∀ {xs : List D} {vs : List V}, Reps K F xs vs → flatL xs = true → DpAll K F vs (pyL xs)
  | [], vs, h, _ => by rw [show vs = [] from h]; exact .nil
  | x :: xs, vs, h, q => by
    obtain ⟨v, r, rfl, h2, h3⟩ := h
    have q2 := Bool.and_eq_true_iff.mp (show (D.flat x && flatL xs) = true from q)
    exact .cons (dp_of h2 q2.1) (dps_of h3 q2.2)
end
mutual
theorem Dp.mono {e : Ex F F'} : ∀ {v : V} {x : PyData}, Dp K F v x → Dp K F' v x
  | _, _, .non => .non
  | _, _, .bl b => .bl b
  | _, _, .int b => .int b
  | _, _, .str b => .str b
  | _, _, .lst h1 h2 => .lst (Evl.ex_l e h1) (Dps.mono (e := e) h2)
  | _, _, .tup h1 h2 => .tup (Evl.ex_t e h1) (Dps.mono (e := e) h2)
theorem Dps.mono {e : Ex F F'} : ∀ {v : List V} {x : List PyData}, DpAll K F v x → DpAll K F' v x
  | _, _, .nil => .nil
  | _, _, .cons h1 h2 => .cons (Dp.mono (e := e) h1) (Dps.mono (e := e) h2)
end
/-- data that == may be asked of -/
def D.okq (x : D) : Bool := x.flat && SeqAt.shaped x.py
def pyEq (x y : D) : Bool := PyData.eqv x.py y.py
theorem opx_eqD : OpX K (rEqD K) (fun (x : α) (y : β) => .need ((toD x).okq = true ∧ (toD y).okq = true) (.ok (pyEq (toD x) (toD y)))) := fun F H x y v u Q e h1 h2 k => by
  dsimp only at k
  by_cases c : (toD x).okq = true ∧ (toD y).okq = true
  · rw [Res.need_pos c] at k
    obtain ⟨c1, c2⟩ := c
    obtain ⟨a1, a2⟩ := Bool.and_eq_true_iff.mp c1
    obtain ⟨b1, b2⟩ := Bool.and_eq_true_iff.mp c2
    exact ⟨_, _, Dp.mono (e := e) (dp_of h1 a1), Dp.mono (e := e) (dp_of h2 b1), a2, b2, k _ F H (Adv.refl e) rfl⟩
  · rw [Res.need_neg c] at k
    exact k.elim
theorem opx_neD : OpX K (rNeD K) (fun (x : α) (y : β) => .need ((toD x).okq = true ∧ (toD y).okq = true) (.ok (!pyEq (toD x) (toD y)))) := fun F H x y v u Q e h1 h2 k => by
  dsimp only at k
  by_cases c : (toD x).okq = true ∧ (toD y).okq = true
  · rw [Res.need_pos c] at k
    obtain ⟨c1, c2⟩ := c
    obtain ⟨a1, a2⟩ := Bool.and_eq_true_iff.mp c1
    obtain ⟨b1, b2⟩ := Bool.and_eq_true_iff.mp c2
    exact ⟨_, _, Dp.mono (e := e) (dp_of h1 a1), Dp.mono (e := e) (dp_of h2 b1), a2, b2, k _ F H (Adv.refl e) rfl⟩
  · rw [Res.need_neg c] at k
    exact k.elim

/-! ### an item -/
def idx {α : Type} (xs : List α) (i : Int) : Res α := match atI xs i with
  | some x => .ok x
  | none => .stuck
theorem idx_mild {α : Type} (xs : List α) (i : Int) (c : Str) : idx xs i ≠ .exc c := by
  unfold idx; split <;> intro h <;> cases h
theorem atI_map {α β : Type} (f : α → β) (xs : List α) (i : Int) : atI (xs.map f) i = (atI xs i).map f := by
  unfold atI
  rw [List.length_map]
  cases ixN xs.length i with
  | none => rfl
  | some j => simp
theorem Reps.at {xs : List D} {vs : List V} {i : Int} {x : D} (h : Reps K F xs vs) (e : atI xs i = some x) : ∃ v, atI vs i = some v ∧ Rep K F x v := by
  unfold atI at e ⊢
  rw [← h.length]
  cases q : ixN xs.length i with
  | none => rw [q] at e; cases e
  | some j => rw [q] at e; exact Reps.get h e
theorem opx_ixL : OpX K (rIxL K) (fun (xs : List α) (i : Int) => idx xs i) := fun F H xs i v u Q e h1 h2 k => by
  obtain ⟨a, vs, rfl, hl, hr⟩ := h1
  cases (show u = V.int i from h2)
  dsimp only [idx] at k
  cases q : atI xs i with
  | none => rw [q] at k; exact k.elim
  | some x =>
    rw [q] at k
    obtain ⟨w, hw, rw_⟩ := Reps.at (i := i) hr (x := toD x) (by rw [atI_map, q]; rfl)
    exact ⟨a, vs, i, w, rfl, rfl, sq_ex e hl, hw, k _ F H (Adv.refl e) rw_⟩
theorem opx_ixT : OpX K (rIxT K) (fun (xs : Tu α) (i : Int) => idx xs.xs i) := fun F H xs i v u Q e h1 h2 k => by
  obtain ⟨a, vs, rfl, hl, hr⟩ := h1
  cases (show u = V.int i from h2)
  dsimp only [idx] at k
  cases q : atI xs.xs i with
  | none => rw [q] at k; exact k.elim
  | some x =>
    rw [q] at k
    obtain ⟨w, hw, rw_⟩ := Reps.at (i := i) hr (x := toD x) (by rw [atI_map, q]; rfl)
    exact ⟨a, vs, i, w, rfl, rfl, Evl.ex_t e hl, hw, k _ F H (Adv.refl e) rw_⟩
/-- xs[i], xs the owned list of slot j -/
theorem ev_ixO {j : Nat} {xs : List α} {m : Res Int} (h : env[j]? = some (some (.ow (xs.map toD)))) (hb : EvX K W env tb m) : EvX K W env (tOp (rIxL K) (tVar j) tb) (m.bind fun i => idx xs i) := fun F0 H0 F H σ Q S k => by
  obtain ⟨v, e, p, vs, rfl, h0, hf, hp, hr⟩ := S.slot j _ h
  refine ⟨_, e, ?_⟩
  refine hb F0 H0 F H σ _ S (KE.cut S.ex k fun i u F1 H1 e1 a1 r1 k1 => ?_)
  cases (show u = V.int i from r1)
  unfold idx at k1
  cases q : atI xs i with
  | none => rw [q] at k1; exact k1.elim
  | some x =>
    rw [q] at k1
    obtain ⟨w, hw, rw_⟩ := Reps.at (i := i) hr (x := toD x) (by rw [atI_map, q]; rfl)
    exact ⟨p, vs, i, w, rfl, rfl, .inl (.inl (a1.h _ _ hp)), hw, k1 _ F1 H1 (Adv.refl a1.in_) (Rep.mono a1.f _ _ rw_)⟩

/-! ### tests, and, or, not -/
theorem et_test {m : Res Bool} (ha : EvX K W env te m) : EvT K W env (tTest te) m := fun F0 H0 F H σ Q S k => by
  refine ha F0 H0 F H σ _ S ?_
  cases m with
  | ok b => exact fun v F' H' a q => ⟨b, q, k F' H' a⟩
  | exc c => exact k
  | stuck => exact k.elim
theorem et_B {m : Res Bool} (ha : EvX K W env te m) : EvT K W env (tB te) m := et_test ha
theorem et_not {m : Res Bool} (ha : EvT K W env tt m) : EvT K W env (tNot tt) (m.bind fun b => .ok (!b)) := fun F0 H0 F H σ Q S k => by
  refine ha F0 H0 F H σ _ S ?_
  cases m with
  | ok b => exact k
  | exc c => exact k
  | stuck => exact k.elim
theorem et_and {m1 m2 : Res Bool} (ha : EvT K W env tt m1) (hb : EvT K W env tu m2) : EvT K W env (tAnd tt tu) (m1.bind fun b => cond b m2 (.ok false)) := fun F0 H0 F H σ Q S k => by
  refine ha F0 H0 F H σ _ S ?_
  cases m1 with
  | ok b =>
    intro F' H' a
    cases b with
    | true =>
      have k : KT K W F H σ Q m2 := k
      show tu σ H' Q
      exact hb F0 H0 F' H' σ Q (S.step a) (k.adv a)
    | false => exact k F' H' a
  | exc c => exact k
  | stuck => exact k.elim
theorem et_or {m1 m2 : Res Bool} (ha : EvT K W env tt m1) (hb : EvT K W env tu m2) : EvT K W env (tOr tt tu) (m1.bind fun b => cond b (.ok true) m2) := fun F0 H0 F H σ Q S k => by
  refine ha F0 H0 F H σ _ S ?_
  cases m1 with
  | ok b =>
    intro F' H' a
    cases b with
    | false =>
      have k : KT K W F H σ Q m2 := k
      show tu σ H' Q
      exact hb F0 H0 F' H' σ Q (S.step a) (k.adv a)
    | true => exact k F' H' a
  | exc c => exact k
  | stuck => exact k.elim
theorem ev_andV {m1 m2 : Res Bool} (ha : EvX K W env ta m1) (hb : EvX K W env tb m2) : EvX K W env (tAndV ta tb) (m1.bind fun b => cond b m2 (.ok false)) := fun F0 H0 F H σ Q S k => by
  refine ha F0 H0 F H σ _ S ?_
  cases m1 with
  | ok b =>
    intro v F' H' a r
    refine ⟨b, r, ?_⟩
    cases b with
    | true =>
      have k : KE K W F H σ Q m2 := k
      exact hb F0 H0 F' H' σ Q (S.step a) (k.adv a)
    | false => exact k _ F' H' a rfl
  | exc c => exact k
  | stuck => exact k.elim
theorem ev_orV {m1 m2 : Res Bool} (ha : EvX K W env ta m1) (hb : EvX K W env tb m2) : EvX K W env (tOrV ta tb) (m1.bind fun b => cond b (.ok true) m2) := fun F0 H0 F H σ Q S k => by
  refine ha F0 H0 F H σ _ S ?_
  cases m1 with
  | ok b =>
    intro v F' H' a r
    refine ⟨b, r, ?_⟩
    cases b with
    | false =>
      have k : KE K W F H σ Q m2 := k
      exact hb F0 H0 F' H' σ Q (S.step a) (k.adv a)
    | true => exact k _ F' H' a rfl
  | exc c => exact k
  | stuck => exact k.elim
theorem ev_notV {m : Res Bool} (ha : EvX K W env ta m) : EvX K W env (tNotV ta) (m.bind fun b => .ok (!b)) := fun F0 H0 F H σ Q S k => by
  refine ha F0 H0 F H σ _ S ?_
  cases m with
  | ok b => exact fun v F' H' a r => ⟨b, r, k _ F' H' a rfl⟩
  | exc c => exact k
  | stuck => exact k.elim
/-- a < b < c -/
theorem ev_chain {m1 : Res α} {m2 : Res β} {m3 : Res γ} {r' : R2} {f : α → β → Res Bool} {g : β → γ → Res Bool} (ho : OpX K r f) (hf : Mild f) (ho' : OpX K r' g) (hg : Mild g) (ha : EvX K W env ta m1) (hb : EvX K W env tb m2) (hc : EvX K W env tc m3) :
    EvX K W env (tChain r r' ta tb tc) (m1.bind fun x => m2.bind fun y => (f x y).bind fun b => cond b (m3.bind fun z => g y z) (.ok false)) := fun F0 H0 F H σ Q S k => by
  refine ha F0 H0 F H σ _ S (KE.cut S.ex k fun x v F1 H1 e1 a1 r1 k1 => ?_)
  refine hb F0 H0 F1 H1 σ _ (S.step a1) (KE.cut a1.in_ k1 fun y u F2 H2 e2 a2 r2 k2 => ?_)
  refine ho F2 H2 x y v u _ a2.in_ (Rep.mono a2.f _ _ r1) r2 ?_
  cases q : f x y with
  | ok b =>
    rw [q] at k2
    intro w F3 H3 a3 rb
    refine ⟨b, rb, ?_⟩
    cases b with
    | true =>
      have k3 : KE K W F2 H2 σ Q (m3.bind fun z => g y z) := k2
      show tc σ H3 _
      refine hc F0 H0 F3 H3 σ _ (((S.step a1).step a2).step a3) (KE.cut a3.in_ (k3.adv a3) fun z w F4 H4 e4 a4 r4 k4 => ?_)
      exact ho' F4 H4 y z u w Q a4.in_ (Rep.mono (a3.trans a4).f _ _ r2) r4 (k4.mild (hg y z))
    | false => exact k2 _ F3 H3 a3 rfl
  | exc c => exact absurd q (hf x y c)
  | stuck => rw [q] at k2; exact k2.elim

/-! ### arguments, displays, calls -/
theorem ea_nil : EvA K W env tNil (.ok ()) := fun F0 H0 F H σ Q S k => k [] F H (Adv.refl S.ex) rfl
theorem ea_cons {δ : Type} [ToDs δ] {t : TA} {m1 : Res α} {m2 : Res δ} (ha : EvX K W env te m1) (hb : EvA K W env t m2) : EvA K W env (tCons te t) (m1.bind fun x => m2.bind fun y => .ok (x, y)) := fun F0 H0 F H σ Q S k => by
  refine ha F0 H0 F H σ _ S ?_
  cases m1 with
  | ok x =>
    intro v F1 H1 a1 r1
    have k1 : KA K W F H σ Q (m2.bind fun y => .ok (x, y)) := k
    refine hb F0 H0 F1 H1 σ _ (S.step a1) ?_
    cases m2 with
    | ok y =>
      intro vs F2 H2 a2 r2
      exact k1 (v :: vs) F2 H2 (a1.trans a2) ⟨v, vs, rfl, Rep.mono a2.f _ _ r1, r2⟩
    | exc c => exact fun F2 H2 a2 => k1 F2 H2 (a1.trans a2)
    | stuck => exact k1.elim
  | exc c => exact k
  | stuck => exact k.elim
/-- a tuple that is made; its type by f -/
theorem ev_tup {δ : Type} [ToDs δ] {t : TA} {m : Res δ} {f : δ → α} (ha : EvA K W env t m) (hf : ∀ y : δ, toD (f y) = .tup (ToDs.ds y)) (hn : ∀ y : δ, (ToDs.ds y).length ≤ 100000) : EvX K W env (tTup t) (m.bind fun y => .ok (f y)) := fun F0 H0 F H σ Q S k => by
  refine ha F0 H0 F H σ _ S ?_
  cases m with
  | ok y =>
    intro vs F1 H1 a1 r1
    refine ⟨by rw [← r1.length]; exact Evl.sz_of (hn y), fun p hp => ?_⟩
    have a2 : Adv F1 H1 (upd F1 p (.tup vs)) (upd H1 p (.tup vs)) := Adv.new a1.in_ hp
    refine k _ _ _ (a1.trans a2) ?_
    rw [hf]
    exact ⟨p, vs, rfl, .inl (.inl upd_same), Reps.mono a2.f _ _ r1⟩
  | exc c => exact k
  | stuck => exact k.elim
/-- a list that is made -/
theorem en_lst {δ : Type} [ToDs δ] {t : TA} {m : Res δ} {f : δ → List α} (ha : EvA K W env t m) (hf : ∀ y : δ, (f y).map toD = ToDs.ds y) (hn : ∀ y : δ, (ToDs.ds y).length ≤ 100000) : EvN K W env (tLst t) (m.bind fun y => .ok (f y)) := fun F0 H0 F H σ Q S k => by
  refine ha F0 H0 F H σ _ S ?_
  cases m with
  | ok y =>
    intro vs F1 H1 a1 r1
    refine ⟨by rw [← r1.length]; exact Evl.sz_of (hn y), fun p hp => ?_⟩
    refine k p vs _ _ (a1.trans (Adv.newO a1.in_ hp)) (Evl.fresh_back a1.h hp) (none_of_ex a1.in_ hp) upd_same ?_
    rw [hf]
    exact r1
  | exc c => exact k
  | stuck => exact k.elim
/-- a new list as a value that is not changed later -/
theorem ev_ofN {m : Res (List α)} (h : EvN K W env te m) : EvX K W env te m := fun F0 H0 F H σ Q S k => by
  refine h F0 H0 F H σ Q S ?_
  cases m with
  | ok xs =>
    intro p vs F1 H1 a1 hp hf hh r
    have e : Ex F1 (upd F1 p (.lst vs)) := Ex.new hf
    refine k _ (upd F1 p (.lst vs)) H1 ⟨a1.f.trans e, a1.h, fun a u q => ?_, fun q h1 h2 => ?_⟩ ⟨p, vs, rfl, upd_same, Reps.mono e _ _ r⟩
    · by_cases z : a = p
      · subst z; rw [upd_same] at q; cases q; exact hh
      · rw [upd_ne z] at q; exact a1.in_ a u q
    · have z : q ≠ p := fun z => h2 (by rw [z]; exact hp)
      rw [upd_ne z]; exact a1.out q h1 h2
  | exc c => exact k
  | stuck => exact k.elim
/-- a def's promise, by the function that tells what it gives -/
def spM (K : PySem.W.Frag) {δ : Type} [ToDs δ] (f : δ → Res α) : Sp := fun vs H Q E => ∃ F x, Ex F H ∧ Reps K F (ToDs.ds x) vs ∧ KE K (fun cls d _ H => E cls d H) F H [] Q (f x)
theorem ev_call {δ : Type} [ToDs δ] {t : TA} {m : Res δ} {f : δ → Res α} (ha : EvA K W env t m) : EvX K W env (tCallS (spM K f) (WE W) t) (m.bind f) := fun F0 H0 F H σ Q S k => by
  refine ha F0 H0 F H σ _ S ?_
  cases m with
  | ok y =>
    intro vs F1 H1 a1 r1
    refine ⟨F1, y, a1.in_, r1, ?_⟩
    have k : KE K W F H σ Q (f y) := k
    have k := k.adv a1
    revert k
    generalize f y = z
    intro k
    cases z with
    | ok z => exact k
    | exc c => exact k
    | stuck => exact k.elim
  | exc c => exact k
  | stuck => exact k.elim
namespace Res
def noexc {α : Type} : Res α → Res α
  | .exc _ => .stuck
  | m => m
end Res
/-- a call of a def that lets nothing out there -/
theorem ev_call0 {δ : Type} [ToDs δ] {t : TA} {m : Res δ} {f : δ → Res α} (ha : EvA K W env t m) : EvX K W env (tCall (spM K f) [] E0 t) (m.bind fun y => (f y).noexc) := fun F0 H0 F H σ Q S k => by
  refine ha F0 H0 F H σ _ S ?_
  cases m with
  | ok y =>
    intro vs F1 H1 a1 r1
    refine ⟨F1, y, a1.in_, by rw [List.append_nil]; exact r1, ?_⟩
    have k : KE K W F H σ Q (f y).noexc := k
    have k := k.adv a1
    revert k
    generalize f y = z
    intro k
    cases z with
    | ok z => exact k
    | exc c => exact k.elim
    | stuck => exact k.elim
  | exc c => exact k
  | stuck => exact k.elim
/-- built-in defs by their values -/
def CrX (K : PySem.W.Frag) (r : List V → Hp → VK → Prop) {δ : Type} [ToDs δ] (f : δ → Res α) : Prop := ∀ (F H : Hp) (x : δ) (vs : List V) (Q : VK), Ex F H → Reps K F (ToDs.ds x) vs → KE K (fun _ _ _ _ => False) F H [] Q (f x) → r vs H Q
theorem ev_cb {δ : Type} [ToDs δ] {r : List V → Hp → VK → Prop} {t : TA} {m : Res δ} {f : δ → Res α} (ho : CrX K r f) (hm : ∀ x c, f x ≠ .exc c) (ha : EvA K W env t m) : EvX K W env (tCB r t) (m.bind f) := fun F0 H0 F H σ Q S k => by
  refine ha F0 H0 F H σ _ S ?_
  cases m with
  | ok y =>
    intro vs F1 H1 a1 r1
    have k : KE K W F H σ Q (f y) := k
    exact ho F1 H1 y vs Q a1.in_ r1 ((k.adv a1).mild (hm y))
  | exc c => exact k
  | stuck => exact k.elim
end
end Mi
set_option maxHeartbeats 1000000
namespace Mi
open PySem PySem.Spec L2
open Evl (Ex)

/-! ### statements -/
inductive EnLe : En → En → Prop
  | nil : EnLe [] []
  | same {e : Option Sk} {l m : En} : EnLe l m → EnLe (e :: l) (e :: m)
  | drop {e : Option Sk} {l m : En} : EnLe l m → EnLe (e :: l) (none :: m)
theorem EnLe.refl : ∀ l : En, EnLe l l
  | [] => .nil
  | _ :: l => .same (EnLe.refl l)
theorem EnLe.get : ∀ {l m : En}, EnLe l m → ∀ {i : Nat} {sk : Sk}, m[i]? = some (some sk) → l[i]? = some (some sk)
  | _, _, .nil, i, sk, h => h
  | _, _, .same t, 0, sk, h => h
  | _, _, .same t, i + 1, sk, h => EnLe.get t (by simpa using h)
  | _, _, .drop t, 0, sk, h => by simp at h
  | _, _, .drop t, i + 1, sk, h => EnLe.get t (by simpa using h)
theorem EnLe.len {l m : En} (h : EnLe l m) : l.length = m.length := by
  induction h with
  | nil => rfl
  | same _ ih => simp [ih]
  | drop _ ih => simp [ih]
theorem Sl.weak {K : PySem.W.Frag} {F0 H0 F H : Hp} {σ : L2.St} {env env' : En} (S : Sl K F0 H0 F H σ env) (h : EnLe env env') : Sl K F0 H0 F H σ env' :=
  ⟨S.adv, fun i sk e => S.slot i sk (h.get e), fun i j sk sk' p hij e1 e2 => S.dis i j sk sk' p hij (h.get e1) (h.get e2), S.len.trans h.len⟩
def Blk (K : PySem.W.Frag) (F0 H0 : Hp) {τ : Type} (KP : Res τ → Prop) (T : L2.St → Hp → Prop) (env : En) (m : Res τ) : Prop :=
  ∀ F H σ, Sl K F0 H0 F H σ env → KP m → T σ H
/-- what is asked of a returned value besides: of most types nothing -/
class ToR (τ : Type) where
  fr : PySem.W.Frag → τ → V → Hp → Hp → Hp → Prop
instance (priority := low) dfltR {τ : Type} : ToR τ := ⟨fun _ _ _ _ _ _ => True⟩
class DR (τ : Type) [ToR τ] : Prop where
  tr : ∀ K (x : τ) v H0 F H, ToR.fr K x v H0 F H
instance (priority := low) dfltD {τ : Type} : @DR τ dfltR := @DR.mk τ dfltR fun _ _ _ _ _ _ => trivial
structure Lk (K : PySem.W.Frag) (W : WX) (F0 H0 : Hp) (rt : VK) (PT : En → Prop) {τ : Type} [ToD τ] [ToR τ] (KP : Res τ → Prop) : Prop where
  ok : ∀ x, KP (.ok x) → ∀ v F H, Adv F0 H0 F H → Rep K F (toD x) v → ToR.fr K x v H0 F H → rt v H
  exc : ∀ c F H σ env, KP (.exc c) → PT env → Sl K F0 H0 F H σ env → W (.ref (He.ga K c)) none σ H
  no : ¬ KP .stuck
section
variable {K : PySem.W.Frag} {W : WX} {F0 H0 F H F' H' F1 : Hp} {rt : VK} {PT : En → Prop} {env env' : En} {α β γ τ : Type} [ToD α] [ToD β] [ToD γ] [ToD τ] [ToR τ] {KP : Res τ → Prop} {te ta tb tc : TE} {tt : TT} {Z : Ends} {t u : TS} {T : L2.St → Hp → Prop}
theorem Sl.base {σ : L2.St} (S : Sl K F0 H0 F1 H' σ env) {σ' : L2.St} (S' : Sl K F1 H0 F H σ' env') : Sl K F0 H0 F H σ' env' :=
  ⟨⟨S.adv.f.trans S'.adv.f, S'.adv.h, S'.adv.in_, fun p h1 h2 => S'.adv.out p (S.adv.out p h1 h2) h2⟩, S'.slot, S'.dis, S'.len⟩
theorem Lk.base (L : Lk K W F0 H0 rt PT KP) {σ : L2.St} (S : Sl K F0 H0 F1 H' σ env) : Lk K W F1 H0 rt PT KP :=
  ⟨fun x h v F H a r => L.ok x h v F H ⟨S.adv.f.trans a.f, a.h, a.in_, fun p h1 h2 => a.out p (S.adv.out p h1 h2) h2⟩ r,
   fun c F H σ' env' h p S' => L.exc c F H σ' env' h p (S.base S'), L.no⟩
theorem Blk.base {m : Res τ} (B : Blk K F0 H0 KP T env' m) {σ : L2.St} (S : Sl K F0 H0 F1 H' σ env) : Blk K F1 H0 KP T env' m := fun F H σ' S' h => B F H σ' (S.base S') h
theorem Blk.weak {m : Res τ} (B : Blk K F0 H0 KP T env' m) (h : EnLe env env') : Blk K F0 H0 KP T env m := fun F H σ S k => B F H σ (S.weak h) k

/-- what follows an expression in a block -/
theorem Lk.ke (L : Lk K W F0 H0 rt PT KP) (hT : PT env) {σ : L2.St} (S : Sl K F0 H0 F H σ env) {m : Res α} {f : α → Res τ} (h : KP (m.bind f)) {Q : VK}
    (k : ∀ x v F' H', m = .ok x → Adv F H F' H' → Rep K F' (toD x) v → KP (f x) → Q v H') : KE K W F H σ Q m := by
  cases m with
  | ok x => exact fun v F' H' a r => k x v F' H' rfl a r h
  | exc c => exact fun F' H' a => L.exc c F' H' σ env h hT (S.step a)
  | stuck => exact (L.no h).elim
theorem Lk.kt (L : Lk K W F0 H0 rt PT KP) (hT : PT env) {σ : L2.St} (S : Sl K F0 H0 F H σ env) {m : Res Bool} {f : Bool → Res τ} (h : KP (m.bind f)) {Q : Bool → Hp → Prop}
    (k : ∀ x F' H', m = .ok x → Adv F H F' H' → KP (f x) → Q x H') : KT K W F H σ Q m := by
  cases m with
  | ok x => exact fun F' H' a => k x F' H' rfl a h
  | exc c => exact fun F' H' a => L.exc c F' H' σ env h hT (S.step a)
  | stuck => exact (L.no h).elim
theorem Lk.kn (L : Lk K W F0 H0 rt PT KP) (hT : PT env) {σ : L2.St} (S : Sl K F0 H0 F H σ env) {m : Res (List α)} {f : List α → Res τ} (h : KP (m.bind f)) {Q : VK}
    (k : ∀ xs p vs F' H', m = .ok xs → Adv F H F' H' → H p = none → F' p = none → H' p = some (.lst vs) → Reps K F' (xs.map toD) vs → KP (f xs) → Q (.ref p) H') : KN K W F H σ Q m := by
  cases m with
  | ok x => exact fun p vs F' H' a h1 h2 h3 h4 => k x p vs F' H' rfl a h1 h2 h3 h4 h
  | exc c => exact fun F' H' a => L.exc c F' H' σ env h hT (S.step a)
  | stuck => exact (L.no h).elim

theorem blk_seq {m : Res τ} (h : Blk K F0 H0 KP (t { Z with nx := u Z }) env m) : Blk K F0 H0 KP (tSeq t u Z) env m := h
theorem blk_nil {m : Res τ} (h : Blk K F0 H0 KP Z.nx env m) : Blk K F0 H0 KP (tNext Z) env m := h

theorem Blk.nx {m : Res τ} {T bk ct : L2.St → Hp → Prop} {r : VK} (h : Blk K F0 H0 KP T env m) : Blk K F0 H0 KP (Ends.nx ⟨T, r, bk, ct⟩) env m := h
/-! targets -/
def GX (K : PySem.W.Frag) (g : TG) (x : D) (f : En → En) (ws : List Nat) : Prop := ∀ (F0 H0 F H : Hp) (σ : L2.St) (env : En) (v : V) (T : L2.St → Hp → Prop), Sl K F0 H0 F H σ env → Rep K F x v →
  (∀ σ', Sl K F0 H0 F H σ' (f env) → σ'.length = σ.length → (∀ j, j ∉ ws → σ'[j]? = σ[j]?) → T σ' H) → g v σ H T
def GXs (K : PySem.W.Frag) (g : TGs) (xs : List D) (f : En → En) (ws : List Nat) : Prop := ∀ (F0 H0 F H : Hp) (σ : L2.St) (env : En) (vs : List V) (T : L2.St → Hp → Prop), Sl K F0 H0 F H σ env → Reps K F xs vs →
  (∀ σ', Sl K F0 H0 F H σ' (f env) → σ'.length = σ.length → (∀ j, j ∉ ws → σ'[j]? = σ[j]?) → T σ' H) → g vs σ H T
def stE (i : Nat) (x : D) : En → En := fun env => env.set i (some (.im x))
theorem gx_name {i : Nat} {x : D} : GX K (gName i) x (stE i x) [i] := fun F0 H0 F H σ env v T S r k =>
  k _ (S.setIm r) (by rw [List.length_set]) fun j hj => List.getElem?_set_ne fun e => hj (by rw [e]; exact List.mem_singleton.mpr rfl)
theorem gxs_nil : GXs K gNil [] (fun e => e) [] := fun F0 H0 F H σ env vs T S r k => ⟨r, k σ S rfl fun _ _ => rfl⟩
theorem gxs_cons {g : TG} {gs : TGs} {x : D} {xs : List D} {f1 f2 : En → En} {w1 w2 : List Nat} (h1 : GX K g x f1 w1) (h2 : GXs K gs xs f2 w2) : GXs K (gCons g gs) (x :: xs) (fun e => f2 (f1 e)) (w1 ++ w2) := fun F0 H0 F H σ env vs T S r k => by
  obtain ⟨v, rs, rfl, r1, r2⟩ := r
  refine ⟨v, rs, rfl, h1 F0 H0 F H σ env v _ S r1 fun σ1 S1 l1 o1 => ?_⟩
  refine h2 F0 H0 F H σ1 _ rs T S1 r2 fun σ2 S2 l2 o2 => ?_
  refine k σ2 S2 (l2.trans l1) fun j hj => ?_
  rw [o2 j fun z => hj (List.mem_append_right _ z), o1 j fun z => hj (List.mem_append_left _ z)]
theorem gx_tup {gs : TGs} {n : Nat} {xs : List D} {f : En → En} {ws : List Nat} (h : GXs K gs xs f ws) (hn : xs.length = n) : GX K (gTup K n gs) (.tup xs) f ws := fun F0 H0 F H σ env v T S r k => by
  obtain ⟨a, vs, rfl, h1, h2⟩ := r
  exact ⟨a, vs, rfl, Evl.ex_t S.ex h1, by rw [← h2.length]; exact hn, h F0 H0 F H σ env vs T S h2 k⟩

theorem blk_asg {g : TG} {m : Res α} {f : α → Res τ} {fe : α → En → En} {ws : List Nat} (L : Lk K W F0 H0 rt PT KP) (hT : PT env) (he : EvX K W env te m) (hg : ∀ x, GX K g (toD x) (fe x) ws)
    (k : ∀ x, Blk K F0 H0 KP Z.nx (fe x env) (f x)) : Blk K F0 H0 KP (tAsg te g Z) env (m.bind f) := fun F H σ S h =>
  he F0 H0 F H σ _ S (L.ke hT S h fun x v F1 H1 e1 a1 r1 h1 => hg x F0 H0 F1 H1 σ env v _ (S.step a1) r1 fun σ' S' _ _ => k x F1 H1 σ' S' h1)
theorem blk_set {i : Nat} {m : Res α} {f : α → Res τ} (L : Lk K W F0 H0 rt PT KP) (hT : PT env) (he : EvX K W env te m)
    (k : ∀ x, Blk K F0 H0 KP Z.nx (env.set i (some (.im (toD x)))) (f x)) : Blk K F0 H0 KP (tAsg te (gName i) Z) env (m.bind f) :=
  blk_asg L hT he (fun _ => gx_name) k
/-- x = a new list that is changed later -/
theorem blk_own {i : Nat} {m : Res (List α)} {f : List α → Res τ} (L : Lk K W F0 H0 rt PT KP) (hT : PT env) (he : EvN K W env te m)
    (k : ∀ xs, Blk K F0 H0 KP Z.nx (env.set i (some (.ow (xs.map toD)))) (f xs)) : Blk K F0 H0 KP (tAsg te (gName i) Z) env (m.bind f) := fun F H σ S h =>
  he F0 H0 F H σ _ S (L.kn hT S h fun xs p vs F1 H1 e1 a1 hp hf hh r h1 => by
    have S1 := S.step a1
    refine k xs F1 H1 _ (S1.setOw (Evl.fresh_back S.adv.h hp) hf hh (fun j sk' e ho z => ?_) r) h1
    obtain ⟨v, e2, q⟩ := S.slot j _ e
    obtain ⟨p', o', rfl, _, _, q4⟩ := q.at ho
    rw [e2] at z
    cases z
    rw [hp] at q4; cases q4)
/-- x.append(e), x an owned list -/
theorem blk_app {i : Nat} {xs : List β} {m : Res β} {f : β → Res τ} (L : Lk K W F0 H0 rt PT KP) (hT : PT env) (hx : env[i]? = some (some (.ow (xs.map toD)))) (he : EvX K W env te m)
    (k : ∀ y, Blk K F0 H0 KP Z.nx (env.set i (some (.ow ((xs ++ [y]).map toD)))) (f y)) :
    Blk K F0 H0 KP (tDrop (tBM K "list" rAppend (tVar i) (tCons te tNil)) Z) env (m.bind fun y => .need (xs.length < 16777216) (f y)) := fun F H σ S h => by
  obtain ⟨v, e, p, vs, rfl, h0, hf, hp, hr⟩ := S.slot i _ hx
  refine ⟨_, e, .inl ⟨rfl, _, .inl (.inl hp)⟩, ?_⟩
  refine he F0 H0 F H σ _ S (L.ke hT S h fun y u F1 H1 e1 a1 r1 h1 => ?_)
  by_cases c : xs.length < 16777216
  · rw [Res.need_pos c] at h1
    have hr' := Reps.mono a1.f _ _ hr
    refine ⟨p, vs, u, rfl, rfl, a1.h _ _ hp, by rw [sizeLine_eq, ← hr.length, List.length_map]; exact c, ?_⟩
    refine k y F1 _ σ ((S.step a1).chg hx e (a1.out p hf (by rw [hp]; simp)) h0 ?_) h1
    rw [List.map_append]
    exact Reps.append hr' (Reps.one r1)
  · rw [Res.need_neg c] at h1
    exact (L.no h1).elim
/-- x[i] = e, x an owned list -/
theorem blk_setI {i : Nat} {xs : List β} {m : Res β} {mi : Res Int} {f : List β → Res τ} (L : Lk K W F0 H0 rt PT KP) (hT : PT env) (hx : env[i]? = some (some (.ow (xs.map toD)))) (he : EvX K W env te m) (hi : EvX K W env tb mi)
    (k : ∀ ys, Blk K F0 H0 KP Z.nx (env.set i (some (.ow (ys.map toD)))) (f ys)) :
    Blk K F0 H0 KP (tAsg te (gSub (tVar i) tb rSetL) Z) env (m.bind fun y => mi.bind fun j => match ixN xs.length j with | some a => f (xs.set a y) | none => .stuck) := fun F H σ S h => by
  obtain ⟨v, e, p, vs, rfl, h0, hf, hp, hr⟩ := S.slot i _ hx
  refine he F0 H0 F H σ _ S (L.ke hT S h fun y u F1 H1 e1 a1 r1 h1 => ?_)
  refine ⟨_, e, ?_⟩
  refine hi F0 H0 F1 H1 σ _ (S.step a1) (L.ke hT (S.step a1) h1 fun j w F2 H2 e2 a2 r2 h2 => ?_)
  cases (show w = V.int j from r2)
  have hr' := Reps.mono (a1.trans a2).f _ _ hr
  have ha := (a1.trans a2)
  have hl : vs.length = xs.length := by rw [← hr.length, List.length_map]
  cases q : ixN xs.length j with
  | none => rw [q] at h2; exact (L.no h2).elim
  | some a =>
    rw [q] at h2
    refine ⟨p, vs, j, a, rfl, rfl, ha.h _ _ hp, by rw [hl]; exact q, ?_⟩
    refine k (xs.set a y) F2 _ σ ((S.step ha).chg hx e (ha.out p hf (by rw [hp]; simp)) h0 ?_) h2
    rw [List.map_set]
    exact Reps.set a hr' (Rep.mono a2.f _ _ r1)
theorem blk_freeze {xs : List D} (i : Nat) {m : Res τ} (hx : env[i]? = some (some (.ow xs))) (k : Blk K F0 H0 KP T (env.set i (some (.im (.lst xs)))) m) : Blk K F0 H0 KP T env m := fun F H σ S h => by
  obtain ⟨F', _, S'⟩ := S.freeze hx
  exact k F' H σ S' h
theorem blk_if {m : Res Bool} {f : Bool → Res τ} (L : Lk K W F0 H0 rt PT KP) (hT : PT env) (hc : EvT K W env tt m) (h1 : Blk K F0 H0 KP (t Z) env (f true)) (h2 : Blk K F0 H0 KP (u Z) env (f false)) :
    Blk K F0 H0 KP (tIfS tt t u Z) env (m.bind f) := fun F H σ S h =>
  hc F0 H0 F H σ _ S (L.kt hT S h fun b F1 H1 e1 a1 k1 => by
    cases b with
    | true => exact h1 F1 H1 σ (S.step a1) k1
    | false => exact h2 F1 H1 σ (S.step a1) k1)
theorem blk_ret {m : Res τ} [DR τ] (L : Lk K W F0 H0 rt PT KP) (hT : PT env) (he : EvX K W env te m) (hZ : Z.rt = rt := by rfl) : Blk K F0 H0 KP (tRet te Z) env m := fun F H σ S h => by
  subst hZ
  rw [← Res.bind_pure m] at h
  exact he F0 H0 F H σ _ S (L.ke hT S h fun x v F1 H1 e1 a1 r1 h1 => L.ok x h1 v F1 H1 (S.adv.trans a1) r1 (DR.tr _ _ _ _ _ _))
theorem blk_expr {m : Res α} {f : α → Res τ} (L : Lk K W F0 H0 rt PT KP) (hT : PT env) (he : EvX K W env te m) (k : ∀ x, Blk K F0 H0 KP Z.nx env (f x)) : Blk K F0 H0 KP (tDrop te Z) env (m.bind f) := fun F H σ S h =>
  he F0 H0 F H σ _ S (L.ke hT S h fun x v F1 H1 e1 a1 r1 h1 => k x F1 H1 σ (S.step a1) h1)
/-- raise X('..') -/
theorem blk_raise {c : Str} (L : Lk K W F0 H0 rt PT KP) (hT : PT env) : Blk K F0 H0 KP (fun σ H => W (.ref (He.ga K c)) none σ H) env (.exc c) := fun F H σ S h => L.exc c F H σ env h hT S
/-! ### loops -/
structure JS (K : PySem.W.Frag) (F : Hp) (J : It) (xs : List D) : Prop where
  go : ∀ i H, Ex F H → i < xs.length → J.go i H
  stop : ∀ i H, Ex F H → xs.length ≤ i → J.stop i H
  yld : ∀ i H v H' F1, Ex F F1 → Ex F1 H → i < xs.length → J.yld i H v H' → ∃ F2 x, Adv F1 H F2 H' ∧ xs[i]? = some x ∧ Rep K F2 x v
def KI (K : PySem.W.Frag) (W : WX) (F H : Hp) (σ : L2.St) {α : Type} [ToD α] (R : It → Hp → Prop) : Res (List α) → Prop
  | .ok xs => ∀ J F' H', Adv F H F' H' → JS K F' J (xs.map toD) → R J H'
  | .exc c => ∀ F' H', Adv F H F' H' → W (.ref (He.ga K c)) none σ H'
  | .stuck => False
def EvI (K : PySem.W.Frag) (W : WX) (env : En) (wi : TI) {α : Type} [ToD α] (m : Res (List α)) : Prop :=
  ∀ F0 H0 F H σ R, Sl K F0 H0 F H σ env → KI K W F H σ R m → wi σ H R
theorem Lk.ki (L : Lk K W F0 H0 rt PT KP) (hT : PT env) {σ : L2.St} (S : Sl K F0 H0 F H σ env) {m : Res (List α)} {f : List α → Res τ} (h : KP (m.bind f)) {R : It → Hp → Prop}
    (k : ∀ xs J F' H', m = .ok xs → Adv F H F' H' → JS K F' J (xs.map toD) → KP (f xs) → R J H') : KI K W F H σ R m := by
  cases m with
  | ok x => exact fun J F' H' a h1 => k x J F' H' rfl a h1 h
  | exc c => exact fun F' H' a => L.exc c F' H' σ env h hT (S.step a)
  | stuck => exact (L.no h).elim
theorem js_list {a : Addr} {vs : List V} {xs : List D} (hl : SqL K F a vs) (hr : Reps K F xs vs) : JS K F (Itl K a) xs := by
  have hn := hr.length
  refine ⟨fun i H e hi => ?_, fun i H e hi => ?_, fun i H v H' F1 e1 e2 hi hy => ?_⟩
  · exact ⟨vs, vs[i]'(by omega), Evl.ex_l e hl, List.getElem?_eq_getElem (by omega)⟩
  · exact ⟨vs, Evl.ex_l e hl, by omega⟩
  · obtain ⟨e, f⟩ := hy
    subst e
    have g := f vs (Evl.ex_l (e1.trans e2) hl)
    obtain ⟨w, q1, q2⟩ := hr.get (i := i) (e := xs[i]) (List.getElem?_eq_getElem hi)
    rw [g] at q1; cases q1
    exact ⟨F1, xs[i], Adv.refl e2, List.getElem?_eq_getElem hi, Rep.mono e1 _ _ q2⟩
theorem js_tup {a : Addr} {vs : List V} {xs : List D} (hl : SqT K F a vs) (hr : Reps K F xs vs) : JS K F (Itt K a) xs := by
  have hn := hr.length
  refine ⟨fun i H e hi => ?_, fun i H e hi => ?_, fun i H v H' F1 e1 e2 hi hy => ?_⟩
  · exact ⟨vs, vs[i]'(by omega), Evl.ex_t e hl, List.getElem?_eq_getElem (by omega)⟩
  · exact ⟨vs, Evl.ex_t e hl, by omega⟩
  · obtain ⟨e, f⟩ := hy
    subst e
    have g := f vs (Evl.ex_t (e1.trans e2) hl)
    obtain ⟨w, q1, q2⟩ := hr.get (i := i) (e := xs[i]) (List.getElem?_eq_getElem hi)
    rw [g] at q1; cases q1
    exact ⟨F1, xs[i], Adv.refl e2, List.getElem?_eq_getElem hi, Rep.mono e1 _ _ q2⟩
theorem ei_list {m : Res (List α)} (h : EvX K W env te m) : EvI K W env (iList K te) m := fun F0 H0 F H σ R S k => by
  refine h F0 H0 F H σ _ S ?_
  cases m with
  | ok xs =>
    intro v F1 H1 a r
    obtain ⟨p, vs, rfl, h1, h2⟩ := r
    exact ⟨p, rfl, ⟨vs, sq_ex a.in_ h1⟩, k _ F1 H1 a (js_list (Evl.sq_of h1) h2)⟩
  | exc c => exact k
  | stuck => exact k.elim
theorem ei_tup {m : Res (Tu α)} (h : EvX K W env te m) : EvI K W env (iTup K te) (m.bind fun x => .ok x.xs) := fun F0 H0 F H σ R S k => by
  refine h F0 H0 F H σ _ S ?_
  cases m with
  | ok xs =>
    intro v F1 H1 a r
    obtain ⟨p, vs, rfl, h1, h2⟩ := r
    exact ⟨p, rfl, ⟨vs, Evl.ex_t a.in_ h1⟩, k _ F1 H1 a (js_tup h1 h2)⟩
  | exc c => exact k
  | stuck => exact k.elim
def pyRange (lo hi : Int) : List Int := (List.range (hi - lo).toNat).map fun (i : Nat) => lo + (i : Int)
theorem pyRange_len (lo hi : Int) : (pyRange lo hi).length = (hi - lo).toNat := by simp [pyRange]
theorem pyRange_get {lo hi : Int} {i : Nat} (h : i < (hi - lo).toNat) : (pyRange lo hi)[i]? = some (lo + (i : Int)) := by
  simp [pyRange, h]
theorem js_range {lo hi : Int} : JS K F (Itr lo (hi - lo).toNat) ((pyRange lo hi).map toD) := by
  refine ⟨fun i H e h => ?_, fun i H e h => ?_, fun i H v H' F1 e1 e2 h hy => ?_⟩
  · rw [List.length_map, pyRange_len] at h; exact h
  · rw [List.length_map, pyRange_len] at h; exact h
  · rw [List.length_map, pyRange_len] at h
    obtain ⟨e, q⟩ := hy
    subst e q
    exact ⟨F1, .int (lo + (i : Int)), Adv.refl e2, by rw [List.getElem?_map, pyRange_get h]; rfl, rfl⟩
abbrev okRange (i : Int) : Prop := -(2 ^ 62) ≤ i ∧ i < 2 ^ 62
theorem ei_range1 {m : Res Int} (h : EvX K W env te m) : EvI K W env (iRng1 (tCons te tNil)) (m.bind fun j => .need (okRange j) (.ok (pyRange 0 j))) := fun F0 H0 F H σ R S k => by
  refine h F0 H0 F H σ _ S ?_
  cases m with
  | ok j =>
    intro v F1 H1 a r
    cases (show v = V.int j from r)
    have k : KI K W F H σ R (.need (okRange j) (.ok (pyRange 0 j))) := k
    by_cases c : okRange j
    · rw [Res.need_pos c] at k
      refine ⟨j, rfl, c.1, c.2, k _ F1 H1 a ?_⟩
      have := js_range (K := K) (F := F1) (lo := 0) (hi := j)
      rw [Int.sub_zero] at this
      exact this
    · rw [Res.need_neg c] at k; exact k.elim
  | exc c => exact k
  | stuck => exact k.elim
/-- range(i, j, -1) -/
def pyDown (i j : Int) : List Int := (List.range (i - j).toNat).map fun (a : Nat) => i - (a : Int)
theorem blk_for {S : Type} {wi : TI} {g : TG} {tb : TS} {m : Res (List α)} {fe : α → En → En} {ws : List Nat} (loop : List α → S → Res τ) (k : S → Res τ) (envS : S → En) (s0 : S)
    (L : Lk K W F0 H0 rt PT KP) (hT : PT env) (hi : EvI K W env wi m) (hg : ∀ x, GX K g (toD x) (fe x) ws) (h0 : EnLe env (envS s0)) (hnil : ∀ s, loop [] s = k s)
    (hbody : ∀ F1, Lk K W F1 H0 rt PT KP → (∀ s, Blk K F1 H0 KP Z.nx (envS s) (k s)) → ∀ x r s (N : L2.St → Hp → Prop), (∀ s', Blk K F1 H0 KP N (envS s') (loop r s')) →
      Blk K F1 H0 KP (tb { Z with nx := N, ct := N, bk := Z.nx }) (fe x (envS s)) (loop (x :: r) s))
    (hrest : ∀ s, Blk K F0 H0 KP Z.nx (envS s) (k s)) : Blk K F0 H0 KP (tFor wi g tb Z) env (m.bind fun xs => loop xs s0) := fun F H σ S h => by
  refine hi F0 H0 F H σ _ S (L.ki hT S h fun xs J F1 H1 e1 a1 js h1 => ?_)
  have S1 := (S.step a1).weak h0
  have S11 : Sl K F1 H0 F1 H1 σ (envS s0) := ⟨⟨Ex.refl _, S1.adv.h, S1.adv.in_, fun p q _ => q⟩, S1.slot, S1.dis, S1.len⟩
  have hB := hbody F1 (L.base S1) (fun s => (hrest s).base S1)
  have hn : (xs.map toD).length = xs.length := List.length_map ..
  refine ⟨fun i m σ H => m = xs.length - i ∧ i ≤ xs.length ∧ ∃ F s, Sl K F1 H0 F H σ (envS s) ∧ KP (loop (xs.drop i) s), ⟨xs.length, rfl, Nat.zero_le _, F1, s0, S11, h1⟩, ?_⟩
  rintro i m σ H ⟨rfl, hle, F, s, S, h⟩
  by_cases hlt : i < xs.length
  · refine .inr ⟨js.go i H (S.adv.f.trans S.ex) (by rw [hn]; exact hlt), fun σ' H' => ∃ F s, Sl K F1 H0 F H' σ' (envS s) ∧ KP (loop (xs.drop (i + 1)) s), fun σ' H' w => ⟨_, by omega, rfl, hlt, w⟩, fun v H' hy => ?_⟩
    obtain ⟨F2, x, a2, ex, rx⟩ := js.yld i H v H' F S.adv.f S.ex (by rw [hn]; exact hlt) hy
    rw [List.getElem?_map, List.getElem?_eq_getElem hlt] at ex
    cases ex
    refine hg xs[i] F1 H0 F2 H' σ (envS s) v _ (S.step a2) rx fun σ' S' _ _ => ?_
    have e : xs.drop i = xs[i] :: xs.drop (i + 1) := List.drop_eq_getElem_cons hlt
    rw [e] at h
    exact hB xs[i] (xs.drop (i + 1)) s _ (fun s' F H σ S h => ⟨F, s', S, h⟩) F2 H' σ' S' h
  · have e : xs.drop i = [] := List.drop_of_length_le (by omega)
    rw [e, hnil] at h
    exact .inl ⟨js.stop i H (S.adv.f.trans S.ex) (by rw [hn]; omega), (hrest s).base S1 F H σ S h⟩
/-! ### comprehensions -/
def compL {α β : Type} (t : α → Res Bool) (e : α → Res β) : List α → Res (List β)
  | [] => .ok []
  | x :: r => (t x).bind fun b => cond b ((e x).bind fun y => (compL t e r).bind fun ys => .ok (y :: ys)) (compL t e r)
def mapL {α β : Type} (e : α → Res β) : List α → Res (List β)
  | [] => .ok []
  | x :: r => (e x).bind fun y => (mapL e r).bind fun ys => .ok (y :: ys)
end
end Mi
set_option maxHeartbeats 1000000
namespace Mi
open PySem PySem.Spec L2
open Evl (Ex)
section
variable {K : PySem.W.Frag} {W : WX} {F0 H0 F H F' H' F1 : Hp} {rt : VK} {PT : En → Prop} {env env' : En} {α β γ τ : Type} [ToD α] [ToD β] [ToD γ] [ToD τ] [ToR τ] {KP : Res τ → Prop} {te ta tb tc : TE} {tt : TT} {Z : Ends} {t u : TS} {T : L2.St → Hp → Prop} {σ : L2.St}

/-! ### comprehensions -/
theorem Sl.updN (S : Sl K F0 H0 F H σ env) {p : Addr} {o : HO} (hp : F p = none) (h0 : H0 p = none) (hn : ∀ (i : Nat) (sk : Sk), env[i]? = some (some sk) → sk.own = true → σ[i]? ≠ some (some (V.ref p))) : Sl K F0 H0 F (upd H p o) σ env := by
  refine ⟨⟨S.adv.f, fun a u q => ?_, fun a u q => ?_, S.adv.out⟩, fun j sk q => ?_, S.dis, S.len⟩
  · rw [upd_ne (ne_of_none q h0)]; exact S.adv.h a u q
  · rw [upd_ne (ne_of_none q hp)]; exact S.adv.in_ a u q
  · obtain ⟨w, h1, h2⟩ := S.slot j sk q
    exact ⟨w, h1, h2.updH fun o2 zz => hn j sk q o2 (by rw [h1, zz])⟩
/-- the names of a comprehension are forgotten -/
def unset : List Nat → En → En
  | [], e => e
  | i :: is, e => (unset is e).set i none
theorem unset_len (e : En) : ∀ ws : List Nat, (unset ws e).length = e.length
  | [] => rfl
  | i :: is => by show ((unset is e).set i none).length = _; rw [List.length_set, unset_len e is]
theorem unset_get {e : En} {j : Nat} {sk : Sk} : ∀ {ws : List Nat}, (unset ws e)[j]? = some (some sk) → e[j]? = some (some sk) ∧ j ∉ ws
  | [], h => ⟨h, by simp⟩
  | i :: is, h => by
    have h : ((unset is e).set i none)[j]? = some (some sk) := h
    rcases set_get h with ⟨_, z⟩ | ⟨z, h⟩
    · cases z
    · obtain ⟨h1, h2⟩ := unset_get h
      exact ⟨h1, by simp only [List.mem_cons, not_or]; exact ⟨fun e => z e.symm, h2⟩⟩
theorem Sl.wipe (S : Sl K F0 H0 F H σ env) (ws : List Nat) : Sl K F0 H0 F H (L2.wipe σ ws) (unset ws env) := by
  refine ⟨S.adv, fun i sk e => ?_, fun i j xs ys p hij e1 e2 o1 o2 h1 => ?_, by rw [wipe_length, unset_len]; exact S.len⟩
  · obtain ⟨e, hn⟩ := unset_get e
    rw [wipe_out hn]; exact S.slot i sk e
  · obtain ⟨e1, n1⟩ := unset_get e1
    obtain ⟨e2, n2⟩ := unset_get e2
    rw [wipe_out n1] at h1
    rw [wipe_out n2]
    exact S.dis i j xs ys p hij e1 e2 o1 o2 h1
theorem wipe_in {j : Nat} : ∀ {ws : List Nat}, j ∈ ws → j < σ.length → (L2.wipe σ ws)[j]? = some none
  | [], h, _ => by cases h
  | i :: is, h, hl => by
    show ((L2.wipe σ is).set i none)[j]? = some none
    by_cases e : i = j
    · subst e
      rw [List.getElem?_set_self (by rw [wipe_length]; exact hl)]
    · rw [List.getElem?_set_ne e]
      rcases List.mem_cons.mp h with z | z
      · exact absurd z.symm e
      · exact wipe_in z hl
theorem wipe_eq {σ' : L2.St} {ws : List Nat} (hl : σ'.length = (L2.wipe σ ws).length) (ho : ∀ j, j ∉ ws → σ'[j]? = (L2.wipe σ ws)[j]?) : L2.wipe σ' ws = L2.wipe σ ws := by
  rw [wipe_length] at hl
  apply List.ext_getElem?
  intro j
  by_cases hj : j ∈ ws
  · by_cases hlt : j < σ.length
    · rw [wipe_in hj hlt, wipe_in hj (by rw [hl]; exact hlt)]
    · rw [List.getElem?_eq_none (by rw [wipe_length]; omega), List.getElem?_eq_none (by rw [wipe_length]; omega)]
  · rw [wipe_out hj, ho j hj]
abbrev WT : WX := fun _ _ _ _ => True
theorem ev_comp {wi : TI} {g : TG} {m : Res (List α)} {fe : α → En → En} {ws : List Nat} {tst : α → Res Bool} {el : α → Res β} (hi : EvI K W env wi m) (hg : ∀ x, GX K g (toD x) (fe x) ws)
    (ht : ∀ x, EvT K WT (fe x (unset ws env)) tt (tst x)) (he : ∀ x, EvX K WT (fe x (unset ws env)) te (el x)) :
    EvN K W env (tLc wi g tt te ws) (m.bind fun xs => .need (xs.length ≤ 16777216) (compL tst el xs)) := fun F0 H0 F H σ Q S k => by
  refine hi F0 H0 F H σ _ S ?_
  cases m with
  | exc c => exact k
  | stuck => exact k.elim
  | ok xs =>
  intro J F1 H1 a1 js D hD
  have k : KN K W F H σ Q (.need (xs.length ≤ 16777216) (compL tst el xs)) := k
  by_cases c : xs.length ≤ 16777216
  case neg => rw [Res.need_neg c] at k; exact k.elim
  rw [Res.need_pos c] at k
  have hn : (xs.map toD).length = xs.length := List.length_map ..
  have hDF : F1 D = none := none_of_ex a1.in_ hD
  have hDH : H D = none := Evl.fresh_back a1.h hD
  have hD0 : H0 D = none := Evl.fresh_back S.adv.h hDH
  -- the new list is none of the slots'
  have hne : ∀ (i : Nat) (sk : Sk), env[i]? = some (some sk) → sk.own = true → σ[i]? ≠ some (some (V.ref D)) := fun i sk e ho z => by
    obtain ⟨v, e1, q⟩ := S.slot i _ e
    obtain ⟨p, o, rfl, _, _, q⟩ := q.at ho
    rw [e1] at z; cases z
    rw [hDH] at q; cases q
  have S1 : Sl K F0 H0 F1 (upd H1 D (.lst [])) σ env := (S.step a1).updN hDF hD0 hne
  refine ⟨fun i n H' => n = xs.length - i ∧ i ≤ xs.length ∧ ∃ F' acc vs, Sl K F0 H0 F' H' σ env ∧ Adv F H F' H' ∧ Ex F1 F' ∧ F' D = none ∧ H' D = some (.lst vs) ∧ Reps K F' (acc.map toD) vs ∧ acc.length ≤ i ∧
    (∀ ys, compL tst el (xs.drop i) = .ok ys → compL tst el xs = .ok (acc ++ ys)) ∧ (∀ c, compL tst el (xs.drop i) = .exc c → compL tst el xs = .exc c) ∧ (compL tst el (xs.drop i) = .stuck → compL tst el xs = .stuck),
    ⟨xs.length, rfl, Nat.zero_le _, F1, ([] : List β), [], S1, a1.trans (Adv.newO a1.in_ hD), Ex.refl _, hDF, upd_same, (show Reps K F1 [] [] from rfl), Nat.le_refl _, fun ys h => h, fun c h => h, fun h => h⟩, ?_⟩
  rintro i n H2 ⟨rfl, hle, F2, acc, vs, S2, a2, x2, f2, h2, r2, l2, q1, q2, q3⟩
  by_cases hlt : i < xs.length
  · refine .inr ⟨js.go i H2 (x2.trans a2.in_) (by rw [hn]; exact hlt), fun H' => (i + 1 ≤ xs.length ∧ ∃ F' acc vs, Sl K F0 H0 F' H' σ env ∧ Adv F H F' H' ∧ Ex F1 F' ∧ F' D = none ∧ H' D = some (.lst vs) ∧ Reps K F' (acc.map toD) vs ∧ acc.length ≤ i + 1 ∧
      (∀ ys, compL tst el (xs.drop (i + 1)) = .ok ys → compL tst el xs = .ok (acc ++ ys)) ∧ (∀ c, compL tst el (xs.drop (i + 1)) = .exc c → compL tst el xs = .exc c) ∧ (compL tst el (xs.drop (i + 1)) = .stuck → compL tst el xs = .stuck)),
      fun H' w => ⟨_, by omega, rfl, w⟩, fun v H3 hy => ?_⟩
    obtain ⟨F3, x, a3, ex, rx⟩ := js.yld i H2 v H3 F2 x2 a2.in_ (by rw [hn]; exact hlt) hy
    rw [List.getElem?_map, List.getElem?_eq_getElem hlt] at ex
    cases ex
    have e : xs.drop i = xs[i] :: xs.drop (i + 1) := List.drop_eq_getElem_cons hlt
    rw [e] at q1 q2 q3
    have S3 := S2.step a3
    refine hg xs[i] F0 H0 F3 H3 _ _ v _ (S3.wipe ws) rx fun σ' S' sl so => ⟨wipe_eq sl so, ?_⟩
    have f3 : F3 D = none := a3.out D f2 (by rw [h2]; simp)
    refine ht xs[i] F0 H0 F3 H3 σ' _ S' ?_
    cases qt : tst xs[i] with
    | exc c => exact fun _ _ _ => trivial
    | stuck =>
      have := q3 (by show (tst xs[i]).bind _ = _; rw [qt]; rfl)
      rw [this] at k; exact k.elim
    | ok b =>
    intro F4 H4 a4
    have f4 : F4 D = none := a4.out D f3 (by rw [a3.h _ _ h2]; simp)
    cases b with
    | false =>
      show i + 1 ≤ xs.length ∧ _
      refine ⟨hlt, F4, acc, vs, S3.step a4, (a2.trans a3).trans a4, (x2.trans a3.f).trans a4.f, f4, a4.h _ _ (a3.h _ _ h2), Reps.mono (a3.trans a4).f _ _ r2, by omega, fun ys h => ?_, fun c h => ?_, fun h => ?_⟩
      · exact q1 ys (by show (tst xs[i]).bind _ = _; rw [qt]; exact h)
      · exact q2 c (by show (tst xs[i]).bind _ = _; rw [qt]; exact h)
      · exact q3 (by show (tst xs[i]).bind _ = _; rw [qt]; exact h)
    | true =>
      show te σ' H4 _
      refine he xs[i] F0 H0 F4 H4 σ' _ (S'.step a4) ?_
      cases qe : el xs[i] with
      | exc c => exact fun _ _ _ => trivial
      | stuck =>
        have := q3 (by show (tst xs[i]).bind _ = _; rw [qt]; show (el xs[i]).bind _ = _; rw [qe]; rfl)
        rw [this] at k; exact k.elim
      | ok y =>
      intro w F5 H5 a5 r5
      have f5 : F5 D = none := a5.out D f4 (by rw [a4.h _ _ (a3.h _ _ h2)]; simp)
      have h5 : H5 D = some (.lst vs) := a5.h _ _ (a4.h _ _ (a3.h _ _ h2))
      have ad := ((a2.trans a3).trans a4).trans a5
      refine ⟨vs, h5, by rw [sizeLine_eq, ← r2.length, List.length_map]; omega, hlt, F5, acc ++ [y], vs ++ [w], ((S3.step a4).step a5).updN f5 hD0 hne, ⟨ad.f, fun a u q => ?_, fun a u q => ?_, ad.out⟩,
        ((x2.trans a3.f).trans a4.f).trans a5.f, f5, upd_same, ?_, by rw [List.length_append]; simp; omega, fun ys h => ?_, fun c h => ?_, fun h => ?_⟩
      · rw [upd_ne (ne_of_none q hDH)]; exact ad.h a u q
      · rw [upd_ne (ne_of_none q f5)]; exact ad.in_ a u q
      · rw [List.map_append]
        exact Reps.append (Reps.mono ((a3.trans a4).trans a5).f _ _ r2) (Reps.one r5)
      · rw [q1 (y :: ys) (by show (tst xs[i]).bind _ = _; rw [qt]; show (el xs[i]).bind _ = _; rw [qe]; show (compL tst el _).bind _ = _; rw [h]; rfl)]
        rw [List.append_assoc]; rfl
      · exact q2 c (by show (tst xs[i]).bind _ = _; rw [qt]; show (el xs[i]).bind _ = _; rw [qe]; show (compL tst el _).bind _ = _; rw [h]; rfl)
      · exact q3 (by show (tst xs[i]).bind _ = _; rw [qt]; show (el xs[i]).bind _ = _; rw [qe]; show (compL tst el _).bind _ = _; rw [h]; rfl)
  · have e : xs.drop i = [] := List.drop_of_length_le (by omega)
    rw [e] at q1
    have := q1 [] rfl
    rw [List.append_nil] at this
    rw [this] at k
    exact .inl ⟨js.stop i H2 (x2.trans a2.in_) (by rw [hn]; omega), k D vs F2 H2 a2 hDH f2 h2 r2⟩
theorem et_yes : EvT K W env tYes (.ok true) := fun F0 H0 F H σ Q S k => k F H (Adv.refl S.ex)

/-! ### built-in defs -/
theorem cx_len : CrX K (fun xs H Q => ∃ p ys, xs = [.ref p] ∧ (SqL K H p ys ∨ SqT K H p ys) ∧ Q (.int ys.length) H) (fun (p : List α × Unit) => .ok (p.1.length : Int)) := fun F H x vs Q e r k => by
  obtain ⟨v, r1, rfl, ⟨a, ws, rfl, hl, hr⟩, h2⟩ := r
  cases (show r1 = [] from h2)
  refine ⟨a, ws, rfl, .inl (sq_ex e hl), ?_⟩
  rw [← hr.length, List.length_map]
  exact k _ F H (Adv.refl e) rfl
theorem cx_abs : CrX K (fun xs H Q => ∃ i, xs = [.int i] ∧ Q (.int (if i < 0 then -i else i)) H) (fun (p : Int × Unit) => .ok (p.1.natAbs : Int)) := fun F H x vs Q e r k => by
  obtain ⟨v, r1, rfl, h1, h2⟩ := r
  cases (show r1 = [] from h2); cases (show v = V.int x.1 from h1)
  refine ⟨x.1, rfl, ?_⟩
  have q : (if x.1 < 0 then -x.1 else x.1) = (x.1.natAbs : Int) := by split <;> omega
  rw [q]
  exact k _ F H (Adv.refl e) rfl
theorem cx_int : CrX K (fun xs H Q => (∃ i, xs = [.int i] ∧ Q (.int i) H) ∨ ∃ k, xs = [.bl k] ∧ Q (.int (if k then 1 else 0)) H) (fun (p : Int × Unit) => .ok p.1) := fun F H x vs Q e r k => by
  obtain ⟨v, r1, rfl, h1, h2⟩ := r
  cases (show r1 = [] from h2); cases (show v = V.int x.1 from h1)
  exact .inl ⟨x.1, rfl, k _ F H (Adv.refl e) rfl⟩
theorem cx_intB : CrX K (fun xs H Q => (∃ i, xs = [.int i] ∧ Q (.int i) H) ∨ ∃ k, xs = [.bl k] ∧ Q (.int (if k then 1 else 0)) H) (fun (p : Bool × Unit) => .ok (if p.1 = true then (1 : Int) else 0)) := fun F H x vs Q e r k => by
  obtain ⟨v, r1, rfl, h1, h2⟩ := r
  cases (show r1 = [] from h2); cases (show v = V.bl x.1 from h1)
  exact .inr ⟨x.1, rfl, k _ F H (Adv.refl e) rfl⟩
/-- the greatest, the least of a list that is not empty -/
def lmax : List Int → Int
  | [] => 0
  | x :: r => r.foldl max x
def lmin : List Int → Int
  | [] => 0
  | x :: r => r.foldl min x
theorem cx_all : CrX K (rAll K) (fun (p : List Bool × Unit) => .ok (p.1.all id)) := fun F H x vs Q e r k => by
  obtain ⟨v, r1, rfl, ⟨a, ws, rfl, hl, hr⟩, h2⟩ := r
  cases (show r1 = [] from h2)
  have e2 : ws = x.1.map V.bl := Reps.bls hr
  subst e2
  exact ⟨a, x.1, rfl, sq_ex e hl, k _ F H (Adv.refl e) rfl⟩
/-- list(xs): a new list -/
theorem en_list {m : Res (List α)} (h : EvX K W env te m) : EvN K W env (tCB (fun xs H Q => ∃ p ys, xs = [V.ref p] ∧ (SqL K H p ys ∨ SqT K H p ys) ∧ ∀ l, H l = none → Q (.ref l) (upd H l (.lst ys))) (tCons te tNil)) m := fun F0 H0 F H σ Q S k => by
  refine h F0 H0 F H σ _ S ?_
  cases m with
  | ok xs =>
    intro v F1 H1 a r
    obtain ⟨p, vs, rfl, h1, h2⟩ := r
    exact ⟨p, vs, rfl, .inl (sq_ex a.in_ h1), fun l hl => k l vs F1 _ (a.trans (Adv.newO a.in_ hl)) (Evl.fresh_back a.h hl) (none_of_ex a.in_ hl) upd_same h2⟩
  | exc c => exact k
  | stuck => exact k.elim
theorem en_listT {m : Res (Tu α)} (h : EvX K W env te m) : EvN K W env (tCB (fun xs H Q => ∃ p ys, xs = [V.ref p] ∧ (SqL K H p ys ∨ SqT K H p ys) ∧ ∀ l, H l = none → Q (.ref l) (upd H l (.lst ys))) (tCons te tNil)) (m.bind fun x => .ok x.xs) := fun F0 H0 F H σ Q S k => by
  refine h F0 H0 F H σ _ S ?_
  cases m with
  | ok xs =>
    intro v F1 H1 a r
    obtain ⟨p, vs, rfl, h1, h2⟩ := r
    exact ⟨p, vs, rfl, .inr (Evl.ex_t a.in_ h1), fun l hl => k l vs F1 _ (a.trans (Adv.newO a.in_ hl)) (Evl.fresh_back a.h hl) (none_of_ex a.in_ hl) upd_same h2⟩
  | exc c => exact k
  | stuck => exact k.elim
/-- tuple(xs) of a list -/
theorem ev_tupleL {m : Res (List α)} (h : EvX K W env te m) : EvX K W env (tCB (fun xs H Q => ∃ p ys, xs = [V.ref p] ∧ ((SqL K H p ys ∧ ∀ l, H l = none → Q (.ref l) (upd H l (.tup ys))) ∨ (SqT K H p ys ∧ Q (.ref p) H))) (tCons te tNil)) (m.bind fun x => .ok (Tu.mk x)) := fun F0 H0 F H σ Q S k => by
  refine h F0 H0 F H σ _ S ?_
  cases m with
  | ok xs =>
    intro v F1 H1 a r
    obtain ⟨p, vs, rfl, h1, h2⟩ := r
    refine ⟨p, vs, rfl, .inl ⟨sq_ex a.in_ h1, fun l hl => ?_⟩⟩
    have a2 : Adv F1 H1 (upd F1 l (.tup vs)) (upd H1 l (.tup vs)) := Adv.new a.in_ hl
    exact k _ _ _ (a.trans a2) ⟨l, vs, rfl, .inl (.inl upd_same), Reps.mono a2.f _ _ h2⟩
  | exc c => exact k
  | stuck => exact k.elim
theorem to_none : ∀ (σ : L2.St) (H : Hp) (Q : Option Int → Hp → Prop), Q none H → tNoPart σ H Q := fun _ _ _ q => q
theorem to_int {i : Int} : ∀ (σ : L2.St) (H : Hp) (Q : Option Int → Hp → Prop), Q (some i) H → tPart (tC (.int i)) σ H Q := fun _ _ _ q => ⟨i, rfl, q⟩

/-! ### isinstance of data -/
def tyName : D → String
  | .non => "NoneType" | .bl _ => "bool" | .int _ => "int" | .str _ => "str" | .ty _ => "type" | .tup _ => "tuple" | .lst _ => "list" | .obj _ _ _ => "object" | .ro _ => "list" | .dct _ _ => "dict"
def D.plain : D → Bool
  | .ty _ => false | .obj _ _ _ => false | .ro _ => false | _ => true
theorem tyx_of {x : D} {v : V} (h : Rep K F x v) (e : Ex F H) (p : x.plain = true) : TyX K H v (.type (tyName x)) := by
  cases x with
  | non => rw [show v = V.non from h]; exact .base .non
  | bl b => rw [show v = V.bl b from h]; exact .base (.bl b)
  | int b => rw [show v = V.int b from h]; exact .base (.int b)
  | str b => rw [show v = V.str b from h]; exact .base (.str b)
  | ty b => cases p
  | obj c ks ds => cases p
  | ro ds => cases p
  | dct ks ds =>
    obtain ⟨a, vs, rfl, hl, _⟩ := h
    exact .base (.dK (e _ _ hl))
  | lst ds =>
    obtain ⟨a, vs, rfl, hl, _⟩ := h
    rcases sq_ex e hl with (q | ⟨o, q⟩) | ⟨o, its, n, q1, q2, _⟩
    · exact .base (.lst q)
    · exact .base (.frz q)
    · exact .kList q1 q2
  | tup ds =>
    obtain ⟨a, vs, rfl, hl, _⟩ := h
    rcases Evl.ex_t e hl with (q | ⟨o, q⟩) | ⟨o, its, n, q1, q2, _⟩
    · exact .base (.tup q)
    · exact .fTuple q
    · exact .kTuple q1 q2
/-- isinstance(x, T), T a built-in class, x any data but objects -/
def isI (n : String) (x : D) : Bool := tyName x == n || (n == "int" && tyName x == "bool")
def isiOk (n : String) : Prop := kitB "NoneType" n = some ("NoneType" == n) ∧ kitB "bool" n = some ("bool" == n || n == "int") ∧ kitB "int" n = some ("int" == n) ∧ kitB "str" n = some ("str" == n) ∧ kitB "tuple" n = some ("tuple" == n) ∧ kitB "list" n = some ("list" == n) ∧ kitB "dict" n = some ("dict" == n)
theorem ev_isi {n : String} {m : Res α} (hn : isiOk n) (h : EvX K W env te m) : EvX K W env (tCB (rIsi K) (tCons te (tCons (tC (.ty n)) tNil))) (m.bind fun x => .need ((toD x).plain = true) (.ok (isI n (toD x)))) := fun F0 H0 F H σ Q S k => by
  refine h F0 H0 F H σ _ S (KE.cut S.ex k fun x v F1 H1 e1 a1 r1 k1 => ?_)
  by_cases c : (toD x).plain = true
  · rw [Res.need_pos c] at k1
    refine ⟨v, .ty n, _, _, isI n (toD x), rfl, .ty n, tyx_of r1 a1.in_ c, ?_, k1 _ F1 H1 (Adv.refl a1.in_) rfl⟩
    refine kit_ty ?_
    obtain ⟨h1, h2, h3, h4, h5, h6, h7⟩ := hn
    revert c
    generalize toD x = y
    intro c
    cases y with
    | non => rw [show tyName .non = "NoneType" from rfl, h1]; simp [isI, tyName]
    | bl b => rw [show tyName (.bl b) = "bool" from rfl, h2]; simp [isI, tyName]
    | int b => rw [show tyName (.int b) = "int" from rfl, h3]; simp [isI, tyName]
    | str b => rw [show tyName (.str b) = "str" from rfl, h4]; simp [isI, tyName]
    | tup b => rw [show tyName (.tup b) = "tuple" from rfl, h5]; simp [isI, tyName]
    | lst b => rw [show tyName (.lst b) = "list" from rfl, h6]; simp [isI, tyName]
    | ty b => cases c
    | obj a b d => cases c
    | ro a => cases c
    | dct a b => rw [show tyName (.dct a b) = "dict" from rfl, h7]; simp [isI, tyName]
  · rw [Res.need_neg c] at k1; exact k1.elim
theorem isi_int : isiOk "int" := by unfold isiOk; decide +kernel
theorem isi_bool : isiOk "bool" := by unfold isiOk; decide +kernel
theorem isi_list : isiOk "list" := by unfold isiOk; decide +kernel
theorem isi_tuple : isiOk "tuple" := by unfold isiOk; decide +kernel
theorem isi_str : isiOk "str" := by unfold isiOk; decide +kernel

/-! ### errors -/
/-- what a body of a try gives: it falls through, or it hands back -/
inductive Fall (S τ : Type) where
  | go (s : S) | back (x : τ)
instance {S τ : Type} [ToR τ] : ToR (Fall S τ) := ⟨fun K x v H0 F H => match x with | .go _ => True | .back y => ToR.fr K y v H0 F H⟩
instance {S τ : Type} [ToR τ] [DR τ] : DR (Fall S τ) := ⟨fun K x v H0 F H => match x with | .go _ => trivial | .back y => DR.tr K y v H0 F H⟩
instance {S τ : Type} [ToD τ] : ToD (Fall S τ) := ⟨fun x => match x with | .go _ => .obj Str.empty [] [.non] | .back x => ToD.d x⟩
theorem no_go {S : Type} {s : S} {v : V} (h : Rep K F (toD (Fall.go s : Fall S τ)) v) : False := by
  obtain ⟨a, dx, vs, _, _, h3, h4⟩ := h
  obtain ⟨w, r, e, _⟩ := h4
  subst e
  simp at h3
/-- the classes of the errors: which they are, which is under which -/
structure Cls (K : PySem.W.Frag) (cs : List Str) (sub : Str → Str → Bool) : Prop where
  exc : ∀ c ∈ cs, ExcC K (He.ga K c)
  exm : ∀ c ∈ cs, ∀ d ∈ cs, PySem.W.exmOne K (.ref (He.ga K c)) (.ref (He.ga K d)) = some (sub c d)
  kit : ∀ c ∈ cs, ∀ d ∈ cs, PySem.W.kitOne K (.ref (He.ga K c)) (.ref (He.ga K d)) = some (sub c d)
  kiv : ∀ c ∈ cs, PySem.W.kitOne K (.ref (He.ga K c)) (.type "ValueError") = some true
/-- the outcome of: try body, except X -/
def tryR {S τ : Type} (known : Str → Bool) (sub : Str → Bool) (m : Res (Fall S τ)) (rest : S → Res τ) (hd : Str → Res τ) : Res τ := match m with
  | .ok (.go s) => rest s
  | .ok (.back x) => .ok x
  | .exc c => if known c = true then (if sub c = true then hd c else .exc c) else .stuck
  | .stuck => .stuck
/-- isinstance(e, C), isinstance(e, (C1, C2)) in the suite -/
def rIsE2 (K : PySem.W.Frag) (a : Addr) (cls : Value) (d : Option Addr) : List V → Hp → VK → Prop := fun xs H Q => ∃ (Dc : Addr) (c : V) (cv : Value) (b : Bool), cls = .ref Dc ∧ d = none ∧ ExcC K Dc ∧ xs = [.ref a, c] ∧ (∀ u, RelV c u → u = cv) ∧ PySem.W.kitOne K (.ref Dc) cv = some b ∧ Q (.bl b) H
def rIsET (K : PySem.W.Frag) (a : Addr) (cls : Value) (d : Option Addr) : List V → Hp → VK → Prop := fun xs H Q => ∃ (Dc tp : Addr) (cl : List V) (us : List Value) (b : Bool), cls = .ref Dc ∧ d = none ∧ ExcC K Dc ∧ xs = [.ref a, .ref tp] ∧ H tp = some (.tup cl) ∧ Paired ClsV cl us ∧ PySem.W.kitAny K (.ref Dc) us = some b ∧ Q (.bl b) H
end

/-! ### a def -/
def enStart (N : List Str) (ds : List D) : En := ds.map (fun x => some (.im x)) ++ List.replicate (N.length - ds.length) none
theorem sl_start {K : PySem.W.Frag} {F H : Hp} {N : List Str} {ds : List D} {vs : List V} (e : Ex F H) (r : Reps K F ds vs) : Sl K F H F H (L2.start N vs) (enStart N ds) := by
  have hl := r.length
  refine ⟨Adv.refl e, fun i sk q => ?_, fun i j xs ys p _ q _ oo _ _ => ?_, by simp [L2.start, enStart, hl]⟩
  · unfold enStart at q
    by_cases c : i < ds.length
    · rw [List.getElem?_append_left (by simpa using c), List.getElem?_map, List.getElem?_eq_getElem c] at q
      cases q
      obtain ⟨v, h1, h2⟩ := r.get (List.getElem?_eq_getElem c)
      refine ⟨v, ?_, h2⟩
      unfold L2.start
      rw [List.getElem?_append_left (by rw [List.length_map]; omega), List.getElem?_map, h1]; rfl
    · rw [List.getElem?_append_right (by simpa using c), List.getElem?_replicate] at q
      split at q <;> cases q
  · unfold enStart at q
    by_cases c : i < ds.length
    · rw [List.getElem?_append_left (by simpa using c), List.getElem?_map, List.getElem?_eq_getElem c] at q
      cases q; cases oo
    · rw [List.getElem?_append_right (by simpa using c), List.getElem?_replicate] at q
      split at q <;> cases q
section
variable {P : Program} {w : World} {K : PySem.W.Frag} {mg : Str → Option Value} {base : Heap} {x qual : Str} {params : Arguments} {body : List Stmt} {scope : Scope} {dvs : List V} {kws : List (Str × V)} {f : Addr} {fd : FuncData}
theorem fn_ok {N ps : List Str} {k : Nat} {β τ : Type} [ToDs β] [ToD τ] [ToR τ] {fM : β → Res τ} (F : FunD K x qual params body scope dvs kws f fd) (S : FnScope N ps scope) (hl : ∀ y : β, (ToDs.ds y).length = ps.length)
    (hbody : ∀ (cdv : Value) (A : Around) (outer : List Env) (s : Shared) (H : Hp) (E : XK), Room k (A.deeper (PyProof.Rows.envOfC qual scope s.heap.objs.size f cdv)) →
      ∃ t, PSs (cxOf (L2.CX P w) P w K mg base N qual scope f cdv A outer s H E) body t ∧
        ∀ (y : β) (F0 H0 : Hp) (Q : VK) (KP : Res τ → Prop), Lk K (fun cls d _ H => E cls d H) F0 H0 Q (fun _ => True) KP → Blk K F0 H0 KP (t { nx := fun _ H' => Q .non H', rt := Q }) (enStart N (ToDs.ds y)) (fM y)) :
    FnOk P w K mg base (L2.CX P w) (k + 1) f fd ps (spM K fM) := by
  refine F.ok S (fun vs H Q E h => ?_) (fun cdv A outer s H vs Q E hr h => ?_)
  · obtain ⟨F, y, _, r, _⟩ := h
    rw [← r.length]; exact hl y
  · obtain ⟨t, h1, h2⟩ := hbody cdv A outer s H E hr
    refine ⟨t, h1, ?_⟩
    obtain ⟨F, y, e, r, q⟩ := h
    refine h2 y F H Q (fun r => KE K (fun cls d _ H => E cls d H) F H [] Q r) ⟨fun z h v F' H' a r _ => h v F' H' a r, fun c F' H' σ env h _ S' => h F' H' S'.adv, fun z => z⟩ F H _ (sl_start e r) q
end
end Mi
set_option maxHeartbeats 1000000
namespace Mi
open PySem PySem.Spec L2
open Evl (Ex)
abbrev W0 (E : XK) : WX := fun cls d _ H => E cls d H
theorem need_mild {α : Type} {p : Prop} {x : α} {c : Str} (h : Res.need p (.ok x) = .exc c) : False := by
  by_cases q : p
  · rw [Res.need_pos q] at h; cases h
  · rw [Res.need_neg q] at h; cases h
/-! what a value of any kind is taken for -/
def D.asInt : D → Res Int
  | .int i => .ok i
  | _ => .stuck
def D.asBool : D → Res Bool
  | .bl i => .ok i
  | _ => .stuck
def D.asStr : D → Res Str
  | .str i => .ok i
  | _ => .stuck
def D.asList : D → Res (List D)
  | .lst i => .ok i
  | _ => .stuck
def D.asTu : D → Res (Tu D)
  | .tup i => .ok ⟨i⟩
  | _ => .stuck
def intsOf : List D → Res (List Int)
  | [] => .ok []
  | .int i :: r => (intsOf r).bind fun s => .ok (i :: s)
  | _ :: _ => .stuck
def D.asInts : D → Res (List Int)
  | .lst i => intsOf i
  | _ => .stuck
theorem asInt_ok : ∀ (x : D) (y : Int), x.asInt = .ok y → toD y = x
  | .int i, y, h => by cases h; rfl
theorem asInt_x (x : D) (c : Str) : x.asInt ≠ .exc c := by cases x <;> intro h <;> cases h
theorem asStr_ok : ∀ (x : D) (y : Str), x.asStr = .ok y → toD y = x
  | .str i, y, h => by cases h; rfl
theorem asStr_x (x : D) (c : Str) : x.asStr ≠ .exc c := by cases x <;> intro h <;> cases h
theorem asList_ok : ∀ (x : D) (y : List D), x.asList = .ok y → toD y = x
  | .lst i, y, h => by cases h; show D.lst (i.map fun x => x) = _; rw [List.map_id']
theorem asList_x (x : D) (c : Str) : x.asList ≠ .exc c := by cases x <;> intro h <;> cases h
theorem asTu_ok : ∀ (x : D) (y : Tu D), x.asTu = .ok y → toD y = x
  | .tup i, y, h => by cases h; show D.tup (i.map fun x => x) = _; rw [List.map_id']
theorem asTu_x (x : D) (c : Str) : x.asTu ≠ .exc c := by cases x <;> intro h <;> cases h
/-- xs[lo:hi] -/
def cutL {α : Type} (xs : List α) (lo hi : Option Int) : List α := (xs.drop (HT.sIx xs.length 0 lo)).take (HT.sIx xs.length xs.length hi - HT.sIx xs.length 0 lo)
section
variable {K : PySem.W.Frag} {W : WX} {F0 H0 F H F' H' F1 : Hp} {rt : VK} {PT : En → Prop} {env env' : En} {α β γ τ : Type} [ToD α] [ToD β] [ToD γ] [ToD τ] [ToR τ] {KP : Res τ → Prop} {te ta tb tc : TE} {tt : TT} {Z : Ends} {t u : TS} {T : L2.St → Hp → Prop} {σ : L2.St}
theorem ev_bits {m : Res Int} (h : EvX K W env te m) : EvX K W env (tBits te) (m.bind fun i => .ok ((Builtin.Int.intBits i : Nat) : Int)) := fun F0 H0 F H σ Q S k => by
  refine h F0 H0 F H σ _ S (KE.cut S.ex k fun x v F1 H1 e1 a1 r1 k1 => ?_)
  exact ⟨x, r1, k1 _ F1 H1 (Adv.refl a1.in_) rfl⟩
theorem ev_cast {m : Res D} {f : D → Res α} (hf : ∀ x y, f x = .ok y → toD y = x) (hx : ∀ x c, f x ≠ .exc c) (h : EvX K W env te m) : EvX K W env te (m.bind f) := fun F0 H0 F H σ Q S k => by
  refine h F0 H0 F H σ _ S ?_
  cases m with
  | ok x =>
    intro v F1 H1 a r
    have k : KE K W F H σ Q (f x) := k
    cases e : f x with
    | ok y => rw [e] at k; exact k v F1 H1 a (by rw [hf x y e]; exact r)
    | exc c => exact absurd e (hx x c)
    | stuck => rw [e] at k; exact k.elim
  | exc c => exact k
  | stuck => exact k.elim
theorem blk_if2 {m : Res Bool} {a b : Res τ} (L : Lk K W F0 H0 rt PT KP) (hT : PT env) (hc : EvT K W env tt m) (h1 : Blk K F0 H0 KP (t Z) env a) (h2 : Blk K F0 H0 KP (u Z) env b) :
    Blk K F0 H0 KP (tIfS tt t u Z) env (m.bind fun c => cond c a b) := blk_if L hT hc h1 h2
theorem blk_ifj {S : Type} (envS : S → En) (k : S → Res τ) {m : Res Bool} {a b : Res τ} (L : Lk K W F0 H0 rt PT KP) (hT : PT env) (hc : EvT K W env tt m) (hr : ∀ s, Blk K F0 H0 KP Z.nx (envS s) (k s))
    (h1 : (∀ s, Blk K F0 H0 KP Z.nx (envS s) (k s)) → Blk K F0 H0 KP (t Z) env a) (h2 : (∀ s, Blk K F0 H0 KP Z.nx (envS s) (k s)) → Blk K F0 H0 KP (u Z) env b) :
    Blk K F0 H0 KP (tIfS tt t u Z) env (m.bind fun c => cond c a b) := blk_if L hT hc (h1 hr) (h2 hr)
end
/-- try: .. except X as n: .. -/
def tTry (K : PySem.W.Frag) (c : Value) (i : Nat) (ts : Addr → Value → Option Addr → TS) (W : WX) (tb : WX → TS) : TS := fun D σ H => tb (wAs K c i ts W D) D σ H
section
variable {X : Cx} {x n : Str} {i : Nat} {c : Value} {body suite : List Stmt} {b₀ : Stmt} {np pos pos' : Pos} {tb : WX → TS} {ts : Addr → Value → Option Addr → TS} {Wout : WX}
end
section
variable {K : PySem.W.Frag} {W : WX} {F0 H0 F H F' H' F1 : Hp} {rt : VK} {PT : En → Prop} {env env' : En} {τ : Type} [ToD τ] [ToR τ] {KP : Res τ → Prop} {Z : Ends}
end
section
variable {X : Cx}
end

/-! ### the errors' facts, by one Bool -/
def eqOV (a : Option (Option Value)) (b : Value) : Bool := decide (a = some (some b))
def excCB (K : PySem.W.Frag) (C : Addr) : Bool :=
  He.eqO (PySem.W.findIn K (.ref C) "__getattribute__") (some (some (.builtin "BaseException.__getattribute__"))) && (He.eqO (PySem.W.findIn K (.ref C) "__getattr__") (some none) && (decide (PySem.W.subIn K (.ref C) (.type "BaseException") = some true) && (PySem.W.hasDictIn K C &&
    (He.eqO (PySem.W.findIn K (.ref C) "__class__") (some (some (.builtin "object.__class__"))) && (He.eqO (PySem.W.specialIn K (.builtin "object.__class__") "__get__") (some (some (.builtin "getset_descriptor.__get__"))) &&
      (decide (PySem.W.takesIn K (.builtin "object.__class__") = some true) && decide (PySem.W.mroIn K C (.type "object") = some true)))))))
theorem excC_of {K : PySem.W.Frag} {C : Addr} (h : excCB K C = true) : ExcC K C := by
  obtain ⟨h1, h⟩ := He.ba h
  obtain ⟨h2, h⟩ := He.ba h
  obtain ⟨h3, h⟩ := He.ba h
  obtain ⟨h4, h⟩ := He.ba h
  obtain ⟨h5, h⟩ := He.ba h
  obtain ⟨h6, h⟩ := He.ba h
  obtain ⟨h7, h8⟩ := He.ba h
  exact ⟨He.eqO_ok h1, He.eqO_ok h2, of_decide_eq_true h3, h4, He.eqO_ok h5, He.eqO_ok h6, of_decide_eq_true h7, of_decide_eq_true h8⟩
def clsB (K : PySem.W.Frag) (cs : List Str) (sub : Str → Str → Bool) : Bool := cs.all fun c => excCB K (He.ga K c) && ((cs.all fun d => decide (PySem.W.kitOne K (.ref (He.ga K c)) (.ref (He.ga K d)) = some (sub c d)) && decide (PySem.W.exmOne K (.ref (He.ga K c)) (.ref (He.ga K d)) = some (sub c d))) &&
  decide (PySem.W.kitOne K (.ref (He.ga K c)) (.type "ValueError") = some true))
theorem cls_of {K : PySem.W.Frag} {cs : List Str} {sub : Str → Str → Bool} (h : clsB K cs sub = true) : Cls K cs sub := by
  have h1 : ∀ c ∈ cs, _ := fun c hc => He.ba (List.all_eq_true.mp h c hc)
  refine ⟨fun c hc => excC_of (h1 c hc).1, fun c hc d hd => ?_, fun c hc d hd => ?_, fun c hc => ?_⟩
  · exact of_decide_eq_true (He.ba (List.all_eq_true.mp (He.ba (h1 c hc).2).1 d hd)).2
  · exact of_decide_eq_true (He.ba (List.all_eq_true.mp (He.ba (h1 c hc).2).1 d hd)).1
  · exact of_decide_eq_true (He.ba (h1 c hc).2).2
end Mi
set_option maxHeartbeats 1000000
namespace Mi
open PySem PySem.Spec L2
open Evl (Ex)
theorem walk_end {l : PySem.W.OpenLaw} {n k : Nat} {q : Program} {loose : List Str} {XP : (Str → Option Value) → Heap → Prop} {YP : World → Heap → Prop} {d : PySem.DefRec} {x : Str} {m : Ro Int → Res Bool}
    (hn : l.most = some n) (hn2 : n ≤ sizeLine) (hdf : d.params.defaults = []) (hr : Room k PySem.callerA)
    (F : ∀ (w : World) (mg : Str → Option Value) (fa : Addr) (h : Heap), YP w h → h.Ns mainGlobals mg → mg d.name = some (.ref fa) →
      ∃ (K : PySem.W.Frag) (fd : FuncData), K.In h ∧ (∀ (s : Shared) (u : Value), PySem.BindsTo s fd ⟨[u], []⟩ [(x, u)]) ∧
        ∀ base : Heap, K.In base → base.Ns mainGlobals mg → FnOk l.prog w K mg base (L2.CX l.prog w) k fa fd [x] (spM K (fun (p : Ro Int × Unit) => m p.1)))
    (ht : ∀ ns : List Int, ns.length ≤ n → (∀ i ∈ ns, Builtin.Int.intBits i ≤ 1048576) → m ⟨ns⟩ = .ok true) :
    PySem.W.WalkO q loose XP YP l.row.toRowW d [] (fun f vs => PySem.call f vs) := by
  refine Att.attach_callB hn hdf fun w s₀ s₁ mg mb fa o pm cd doc a vs ns G Y ho hd hcd hmg hobj hints hlen hbits hg => ?_
  obtain ⟨K, fd, KX, hb, hF⟩ := F w mg fa _ Y G.T.g hmg
  refine law_call KX G.T.g G.T.b G.T.builtins G.T.nolimit hg hobj hints (Nat.le_trans hlen hn2) hr hF hb (fun H hO hS => ?_) fun H e s' z => ?_
  · refine ⟨H, (⟨ns⟩, ()), Ex.refl H, ⟨.ref a, [], rfl, ⟨a, ns.map V.int, rfl, hS, Reps.of_ints ns⟩, rfl⟩, ?_⟩
    show KE K _ H H [] _ (m ⟨ns⟩)
    rw [ht ns hlen hbits]
    exact fun v F' H' _ r => r
  · obtain ⟨_, _, _, _, _, _, _, _, _, _, _, _, z⟩ := z
    exact z
end Mi
set_option maxHeartbeats 1000000
namespace Mi
open PySem PySem.Spec L2
open Evl (Ex)
abbrev rLenS (K : PySem.W.Frag) : List V → Hp → VK → Prop := fun xs H Q => ∃ p ys, xs = [.ref p] ∧ (SqL K H p ys ∨ SqT K H p ys) ∧ Q (.int ys.length) H
theorem cr_len {X : Cx} {K : PySem.W.Frag} (h : X.K = K) : CallR X (.builtin "len") (rLenS K) := by
  subst h; exact call_len_seq
theorem cr_ixL {X : Cx} {K : PySem.W.Frag} (h : X.K = K) : IxR X (rIxL K) := by
  subst h; exact ix_list
theorem cr_ixT {X : Cx} {K : PySem.W.Frag} (h : X.K = K) : IxR X (rIxT K) := by
  subst h; exact ix_tup
theorem cr_slL {X : Cx} {K : PySem.W.Frag} (h : X.K = K) : SlR X (rSlL K) := by
  subst h; exact sl_list
section
variable {K : PySem.W.Frag} {W : WX} {F0 H0 F H F' H' F1 : Hp} {rt : VK} {PT : En → Prop} {env env' : En} {α β γ τ : Type} [ToD α] [ToD β] [ToD γ] [ToD τ] [ToR τ] {KP : Res τ → Prop} {te ta tb tc : TE} {tt : TT} {Z : Ends} {t u : TS} {T : L2.St → Hp → Prop} {σ : L2.St}
/-- xs[::-1] -/
theorem en_rev {m : Res (List α)} (h : EvX K W env te m) : EvN K W env (tRevL K te) (m.bind fun xs => .ok xs.reverse) := fun F0 H0 F H σ Q S k => by
  refine h F0 H0 F H σ _ S ?_
  cases m with
  | ok xs =>
    intro v F1 H1 a r
    obtain ⟨p, vs, rfl, h1, h2⟩ := r
    refine ⟨p, vs, rfl, sq_ex a.in_ h1, fun l hl => ?_⟩
    refine k l _ F1 _ (a.trans (Adv.newO a.in_ hl)) (Evl.fresh_back a.h hl) (none_of_ex a.in_ hl) upd_same ?_
    rw [List.map_reverse]
    exact Reps.reverse h2
  | exc c => exact k
  | stuck => exact k.elim
/-- the parts of a text of an error -/
def EvJ (K : PySem.W.Frag) (W : WX) (env : En) (ts : List TE) (N : Nat) (m : Res Unit) : Prop :=
  ∀ F0 H0 F H σ acc (Q : Str → Hp → Prop), Sl K F0 H0 F H σ env → acc.length + N ≤ sizeLine → KE K W F H σ (fun _ H' => ∀ out, Q out H') m → tJs ts acc σ H Q
theorem ej_nil : EvJ K W env [] 0 (.ok ()) := fun F0 H0 F H σ acc Q S hn k => k .non F H (Adv.refl S.ex) rfl acc
theorem ej_txt {x : Str} {n N : Nat} {ts : List TE} {m : Res Unit} (hx : x.length ≤ n) (h : EvJ K W env ts N m) : EvJ K W env (tC (.str x) :: ts) (n + N) m := fun F0 H0 F H σ acc Q S hn k => by
  have e : (acc ++ x).length = acc.length + x.length := Str.length_append ..
  exact ⟨x, rfl, by omega, h F0 H0 F H σ (acc ++ x) Q S (by omega) k⟩
theorem ej_int {te : TE} {N : Nat} {ts : List TE} {m1 : Res Int} {m : Res Unit} (h1 : EvX K W env te m1) (h : EvJ K W env ts N m) : EvJ K W env (tFmt te :: ts) (1000 + N) (m1.bind fun i => .need (i.natAbs.log2 < 1920 ∧ (toString i : Str).length ≤ 1000) m) := fun F0 H0 F H σ acc Q S hn k => by
  refine h1 F0 H0 F H σ _ S (k.cut S.ex fun i v F1 H1 e1 a1 r1 k1 => ?_)
  have r1 : v = V.int i := r1
  subst r1
  by_cases q : i.natAbs.log2 < 1920 ∧ (toString i : Str).length ≤ 1000
  · rw [Res.need_pos q] at k1
    have e : (acc ++ toString i).length = acc.length + (toString i : Str).length := Str.length_append ..
    exact .inr ⟨i, rfl, q.1, toString i, rfl, by omega, h F0 H0 F1 H1 σ _ Q (S.step a1) (by omega) k1⟩
  · rw [Res.need_neg q] at k1; exact k1.elim
theorem blk_raiseJ {c : Str} {m : Res Unit} {ts : List TE} {N : Nat} (L : Lk K W F0 H0 rt PT KP) (hT : PT env) (hN : N ≤ sizeLine) (he : EvJ K W env ts N m) : Blk K F0 H0 KP (fun σ H => tJs ts Str.empty σ H fun _ H1 => W (.ref (He.ga K c)) none σ H1) env (m.bind fun _ => .exc c) := fun F H σ S h => by
  refine he F0 H0 F H σ _ _ S (by show 0 + N ≤ _; omega) (L.ke hT S h fun x v F1 H1 e1 a1 r1 h1 => ?_)
  exact fun _ => L.exc c F1 H1 σ env h1 hT (S.step a1)
end
end Mi
set_option maxHeartbeats 1000000
namespace Mi
open PySem PySem.Spec L2
open Evl (Ex)

/-! ### own classes: rules with what is raised at the caller's slots -/
section
variable {X : Cx} {CX : CXT} {k : Nat} {f C : Addr} {fd : FuncData} {ps : List Str} {sp : Sp} {E : L2.St → XK} {x m : Str} {p pos apos : Pos} {e o : Expr} {es : List Expr} {ta : TE} {t : TA}
def tMethQ (C : Addr) (m : Str) (sp : Sp) (E : L2.St → XK) (ta : TE) (t : TA) : TE := fun σ H Q => ta σ H fun x H1 => ∃ a dx fs, x = .ref a ∧ H1 a = some (.ins C dx fs) ∧ fs.lookup m = none ∧ t σ H1 fun vs H2 => sp (x :: vs) H2 Q (E σ)
def tMakeQ (C : Addr) (sp : Sp) (E : L2.St → XK) (t : TA) : TE := fun σ H Q => t σ H fun vs H1 => ∀ x dx, H1 x = none → H1 dx = none → dx ≠ x → sp (.ref x :: vs) (upd (upd H1 dx (.own x)) x (.ins C dx [])) (fun v H2 => v = .non ∧ Q (.ref x) H2) (E σ)
end

/-! ### fields by their place -/
def posK (f : Str) : List Str → Option Nat
  | [] => none
  | g :: r => if g = f then some 0 else (posK f r).map (· + 1)
section
variable {K : PySem.W.Frag} {W : WX} {F0 H0 F H F' H' F1 : Hp} {rt : VK} {PT : En → Prop} {env env' : En} {α β γ τ : Type} [ToD α] [ToD β] [ToD γ] [ToD τ] [ToR τ] {KP : Res τ → Prop} {te ta tb tc : TE} {tt : TT} {Z : Ends} {t u : TS} {T : L2.St → Hp → Prop} {σ : L2.St}
/-- the heap without an object that a def changes -/
def hide (H : Hp) (p : Addr) : Hp := fun q => if q = p then none else H q
theorem hide_ne {H : Hp} {p q : Addr} (h : q ≠ p) : hide H p q = H q := if_neg h
/-- the promise of an __init__ -/
def KIn (K : PySem.W.Frag) (F H : Hp) (p : Addr) (Q : VK) (E : XK) : Res α → Prop
  | .ok x => ∀ F' H', Adv F (hide H p) F' H' → Rep K F' (toD x) (.ref p) → Q .non H'
  | .exc c => ∀ F' H', Adv F (hide H p) F' H' → E (.ref (He.ga K c)) none H'
  | .stuck => False
def spI (K : PySem.W.Frag) (c : Str) {δ : Type} [ToDs δ] (f : δ → Res α) : Sp := fun vs H Q E => ∃ F y p dx ws, vs = .ref p :: ws ∧ Ex F H ∧ F p = none ∧ H p = some (.ins (He.ga K c) dx []) ∧ Reps K F (ToDs.ds y) ws ∧ KIn K F H p Q E (f y)
end
section
variable {P : Program} {w : World} {K : PySem.W.Frag} {mg : Str → Option Value} {base : Heap} {x qual : Str} {params : Arguments} {body : List Stmt} {scope : Scope} {dvs : List V} {kws : List (Str × V)} {f : Addr} {fd : FuncData}
end
end Mi
namespace Mi
open PySem PySem.Spec L2
open Evl (Ex)
structure T5 (α β γ δ ε : Type) where
  a : α
  b : β
  c : γ
  e : δ
  f : ε
structure T6 (α β γ δ ε ζ : Type) where
  a : α
  b : β
  c : γ
  e : δ
  f : ε
  g : ζ
structure T8 (α β γ δ ε ζ η θ : Type) where
  a : α
  b : β
  c : γ
  e : δ
  f : ε
  g : ζ
  h : η
  i : θ
instance {α β γ δ ε : Type} [ToD α] [ToD β] [ToD γ] [ToD δ] [ToD ε] : ToD (T5 α β γ δ ε) := ⟨fun x => .tup [ToD.d x.a, ToD.d x.b, ToD.d x.c, ToD.d x.e, ToD.d x.f]⟩
instance {α β γ δ ε ζ : Type} [ToD α] [ToD β] [ToD γ] [ToD δ] [ToD ε] [ToD ζ] : ToD (T6 α β γ δ ε ζ) := ⟨fun x => .tup [ToD.d x.a, ToD.d x.b, ToD.d x.c, ToD.d x.e, ToD.d x.f, ToD.d x.g]⟩
instance {α β γ δ ε ζ η θ : Type} [ToD α] [ToD β] [ToD γ] [ToD δ] [ToD ε] [ToD ζ] [ToD η] [ToD θ] : ToD (T8 α β γ δ ε ζ η θ) := ⟨fun x => .tup [ToD.d x.a, ToD.d x.b, ToD.d x.c, ToD.d x.e, ToD.d x.f, ToD.d x.g, ToD.d x.h, ToD.d x.i]⟩
def optGet {α : Type} : Option α → Res α
  | some x => .ok x
  | none => .stuck
def D.asT1 : D → Res (T1 D)
  | .tup [a] => .ok ⟨a⟩
  | _ => .stuck
def D.asT2 : D → Res (T2 D D)
  | .tup [a, b] => .ok ⟨a, b⟩
  | _ => .stuck
def D.asT3 : D → Res (T3 D D D)
  | .tup [a, b, c] => .ok ⟨a, b, c⟩
  | _ => .stuck
def D.lenR : D → Res Int
  | .tup xs => .ok (xs.length : Int)
  | .lst xs => .ok (xs.length : Int)
  | _ => .stuck
section
variable {K : PySem.W.Frag} {W : WX} {F0 H0 F H F' H' F1 : Hp} {rt : VK} {PT : En → Prop} {env env' : En} {α β γ τ : Type} [ToD α] [ToD β] [ToD γ] [ToD τ] [ToR τ] {KP : Res τ → Prop} {te ta tb tc : TE} {tt : TT} {Z : Ends} {t u : TS} {T : L2.St → Hp → Prop} {σ : L2.St}
theorem ev_lenD {m : Res D} (h : EvX K W env te m) : EvX K W env (tCB (rLenS K) (tCons te tNil)) (m.bind fun x => D.lenR x) := fun F0 H0 F H σ Q S k => by
  refine h F0 H0 F H σ _ S (KE.cut S.ex k fun x v F1 H1 e1 a1 r1 k1 => ?_)
  have k1 : KE K W F1 H1 σ Q (D.lenR x) := k1
  cases x with
  | tup xs =>
    obtain ⟨a, vs, rfl, h2, h3⟩ := r1
    refine ⟨a, vs, rfl, .inr (Evl.ex_t a1.in_ h2), ?_⟩
    have := k1 (.int xs.length) F1 H1 (Adv.refl a1.in_) rfl
    rw [← h3.length]; exact this
  | lst xs =>
    obtain ⟨a, vs, rfl, h2, h3⟩ := r1
    refine ⟨a, vs, rfl, .inl (sq_ex a1.in_ h2), ?_⟩
    have := k1 (.int xs.length) F1 H1 (Adv.refl a1.in_) rfl
    rw [← h3.length]; exact this
  | _ => exact k1.elim
end
end Mi
set_option maxHeartbeats 1000000
namespace Mi
open PySem PySem.Spec L2
open Evl (Ex)
def CPowX (i j : Int) : Prop := 0 ≤ j ∧ (Builtin.Int.intBits i : Int) * j ≤ 2 ^ 27
end Mi
namespace Mi
open PySem PySem.Spec L2
end Mi
set_option maxHeartbeats 1000000
namespace Mi
open PySem PySem.Spec L2
open Evl (Ex)
structure T7 (α β γ δ ε ζ η : Type) where
  a : α
  b : β
  c : γ
  e : δ
  f : ε
  g : ζ
  h : η
instance {α β γ δ ε ζ η : Type} [ToD α] [ToD β] [ToD γ] [ToD δ] [ToD ε] [ToD ζ] [ToD η] : ToD (T7 α β γ δ ε ζ η) := ⟨fun x => .tup [ToD.d x.a, ToD.d x.b, ToD.d x.c, ToD.d x.e, ToD.d x.f, ToD.d x.g, ToD.d x.h]⟩

/-! ### the module's constants -/
def tupB (K : PySem.W.Frag) (a : Addr) : Option (List Value) := match K.lookup a with
  | some o => match o.data with
    | .seq its n => if o.cls = .type "tuple" ∧ its.size ≤ sizeLine then some its.toList else none
    | _ => none
  | none => none
mutual
def repB (K : PySem.W.Frag) : D → Value → Bool
  | .non, u => decide (u = .none)
  | .bl b, u => decide (u = .bool b)
  | .int i, .int j _ => decide (j = i)
  | .str s, .str z _ => decide (z = s)
  | .ty n, u => decide (u = .type n)
  | .tup ds, .ref a => (match tupB K a with
    | some us => repsB K ds us
    | none => false)
  | _, _ => false
def repsB (K : PySem.W.Frag) : List D → List Value → Bool
  | [], us => us.isEmpty
  | d :: ds, u :: us => repB K d u && repsB K ds us
  | _ :: _, [] => false
end
theorem tupB_ok {K : PySem.W.Frag} {a : Addr} {us : List Value} (h : tupB K a = some us) {xs : List V} (r : Vals xs us) (F : Hp) : SqT K F a xs := by
  unfold tupB at h
  split at h
  · rename_i o e
    split at h
    · rename_i its n ed
      split at h
      · rename_i hc
        cases h
        exact .inr ⟨o, its, n, e, hc.1, ed, hc.2, r⟩
      · cases h
    · cases h
  · cases h
mutual
theorem repB_ok {K : PySem.W.Frag} : ∀ (d : D) (u : Value), repB K d u = true → ∃ v, RelV v u ∧ ∀ F, Rep K F d v
  | .non, u, h => ⟨.non, (of_decide_eq_true (show decide (u = Value.none) = true from h) : u = Value.none), fun _ => rfl⟩
  | .bl b, u, h => ⟨.bl b, (of_decide_eq_true (show decide (u = Value.bool b) = true from h) : u = Value.bool b), fun _ => rfl⟩
  | .ty n, u, h => ⟨.ty n, (of_decide_eq_true (show decide (u = Value.type n) = true from h) : u = Value.type n), fun _ => rfl⟩
  | .int i, u, h => by
    cases u with
    | int j t => exact ⟨.int i, ⟨t, by rw [of_decide_eq_true (show decide (j = i) = true from h)]⟩, fun _ => rfl⟩
    | _ => cases h
  | .str s, u, h => by
    cases u with
    | str z t => exact ⟨.str s, ⟨t, by rw [of_decide_eq_true (show decide (z = s) = true from h)]⟩, fun _ => rfl⟩
    | _ => cases h
  | .tup ds, u, h => by
    cases u with
    | ref a =>
      rw [repB] at h
      split at h
      · rename_i us e
        obtain ⟨xs, r, hr⟩ := repsB_ok ds us h
        exact ⟨.ref a, rfl, fun F => ⟨a, xs, rfl, tupB_ok e r F, hr F⟩⟩
      · cases h
    | _ => cases h
  | .lst ds, u, h => by cases u <;> cases h
  | .obj c ks ds, u, h => by cases u <;> cases h
  | .ro ds, u, h => by cases u <;> cases h
  | .dct ks ds, u, h => by cases u <;> cases h
theorem repsB_ok {K : PySem.W.Frag} : ∀ (ds : List D) (us : List Value), repsB K ds us = true → ∃ xs, Vals xs us ∧ ∀ F, Reps K F ds xs
  | [], us, h => by
    cases us with
    | nil => exact ⟨[], .nil, fun _ => rfl⟩
    | cons u us => cases h
  | d :: ds, us, h => by
    cases us with
    | nil => cases h
    | cons u us =>
      rw [repsB] at h
      obtain ⟨h1, h2⟩ := He.ba h
      obtain ⟨v, r, hv⟩ := repB_ok d u h1
      obtain ⟨xs, rs, hx⟩ := repsB_ok ds us h2
      exact ⟨v :: xs, .cons r rs, fun F => ⟨v, xs, rfl, hv F, hx F⟩⟩
end
def conB (K : PySem.W.Frag) (cs : List (Str × D)) : Bool := cs.all fun c => match PySem.W.nsIn K mainGlobals c.1 with
  | some (some u) => repB K c.2 u
  | _ => false
/-- a name of the module that stands for data -/
def ConF (K : PySem.W.Frag) (mg : Str → Option Value) (x : Str) (d : D) : Prop := ∃ u v, mg x = some u ∧ RelV v u ∧ ∀ F, Rep K F d v
theorem con_of {K : PySem.W.Frag} {h : Heap} {mg : Str → Option Value} {cs : List (Str × D)} (X : K.In h) (G : h.Ns mainGlobals mg) (c : conB K cs = true) {x : Str} {d : D} (m : (x, d) ∈ cs) : ConF K mg x d := by
  have q := List.all_eq_true.mp c _ m
  dsimp only at q
  split at q
  · rename_i u e
    obtain ⟨v, r, hv⟩ := repB_ok d u q
    exact ⟨u, v, PySem.W.mg_of X G e, r, hv⟩
  · cases q
section
variable {K : PySem.W.Frag} {mg : Str → Option Value} {x : Str} {d : D}
noncomputable def ConF.u (h : ConF K mg x d) : Value := h.choose
noncomputable def ConF.v (h : ConF K mg x d) : V := h.choose_spec.choose
theorem ConF.m (h : ConF K mg x d) : mg x = some h.u := h.choose_spec.choose_spec.1
theorem ConF.r (h : ConF K mg x d) : RelV h.v h.u := h.choose_spec.choose_spec.2.1
theorem ConF.p (h : ConF K mg x d) (F : Hp) : Rep K F d h.v := h.choose_spec.choose_spec.2.2 F
theorem ev_con {α : Type} [ToD α] {W : WX} {env : En} {z : α} (h : ConF K mg x (toD z)) : EvX K W env (tC h.v) (.ok z) := fun F0 H0 F H σ Q S k => k _ F H (Adv.refl S.ex) (h.p F)
end
theorem opx_notB {K : PySem.W.Frag} : OpX K rNotB (fun (i j : Bool) => .ok (!decide (i = j))) := fun F H x y v u Q e h1 h2 k => by
  cases (show v = V.bl x from h1); cases (show u = V.bl y from h2)
  exact ⟨x, y, rfl, rfl, k _ F H (Adv.refl e) rfl⟩
/-! ### lists that are only read -/
section
variable {K : PySem.W.Frag} {W : WX} {F0 H0 F H F' H' F1 : Hp} {env : En} {α β γ : Type} [ToD α] [ToD β] [ToD γ] {te ta tb : TE}
theorem opx_ixR : OpX K (rIxL K) (fun (xs : Ro α) (i : Int) => idx xs.xs i) := fun F H xs i v u Q e h1 h2 k => by
  obtain ⟨a, vs, rfl, hl, hr⟩ := h1
  cases (show u = V.int i from h2)
  dsimp only [idx] at k
  cases q : atI xs.xs i with
  | none => rw [q] at k; exact k.elim
  | some x =>
    rw [q] at k
    obtain ⟨w, hw, rw_⟩ := Reps.at (i := i) hr (x := toD x) (by rw [atI_map, q]; rfl)
    exact ⟨a, vs, i, w, rfl, rfl, Evl.ex_l e hl, hw, k _ F H (Adv.refl e) rw_⟩
theorem cx_lenRo : CrX K (rLenS K) (fun (p : Ro α × Unit) => .ok (p.1.xs.length : Int)) := fun F H x vs Q e r k => by
  obtain ⟨v, rs, rfl, r1, r2⟩ := r
  cases (show rs = [] from r2)
  obtain ⟨a, ws, rfl, hl, hr⟩ := r1
  refine ⟨a, ws, rfl, .inl (Evl.ex_l e hl), ?_⟩
  have := k (.int (x.1.xs.length : Int)) F H (Adv.refl e) rfl
  have l := hr.length
  rw [List.length_map] at l
  rw [← l]; exact this
/-! ### joined and repeated lists -/
theorem en_cat {m1 m2 : Res (List α)} (ha : EvX K W env ta m1) (hb : EvX K W env tb m2) : EvN K W env (tOp rCat ta tb) (m1.bind fun x => m2.bind fun y => .need (x.length + y.length ≤ 16777216) (.ok (x ++ y))) := fun F0 H0 F H σ Q S k => by
  refine ha F0 H0 F H σ _ S ?_
  cases m1 with
  | ok x =>
    intro v F1 H1 a1 r1
    refine hb F0 H0 F1 H1 σ _ (S.step a1) ?_
    cases m2 with
    | ok y =>
      intro u F2 H2 a2 r2
      have k : KN K W F H σ Q (Res.need (x.length + y.length ≤ 16777216) (.ok (x ++ y))) := k
      by_cases c : x.length + y.length ≤ 16777216
      · rw [Res.need_pos c] at k
        obtain ⟨p, vs, rfl, h1, h2⟩ := r1
        obtain ⟨q, ws, rfl, g1, g2⟩ := r2
        have l1 := h2.length
        have l2 := g2.length
        rw [List.length_map] at l1 l2
        refine ⟨p, q, vs, ws, rfl, rfl, a2.h _ _ (a1.in_ _ _ h1), a2.in_ _ _ g1, ?_, fun z hz => ?_⟩
        · rw [← l1, ← l2]; exact c
        · refine k z (vs ++ ws) F2 _ ((a1.trans a2).trans (Adv.newO a2.in_ hz)) (Evl.fresh_back (a1.trans a2).h hz) (none_of_ex a2.in_ hz) upd_same ?_
          rw [List.map_append]
          exact Reps.append (Reps.mono a2.f _ _ h2) g2
      · rw [Res.need_neg c] at k; exact k.elim
    | exc c => exact fun F2 H2 a2 => k F2 H2 (a1.trans a2)
    | stuck => exact k.elim
  | exc c => exact k
  | stuck => exact k.elim
theorem Reps.flat {xs : List D} {vs : List V} (h : Reps K F xs vs) : ∀ n : Nat, Reps K F (List.replicate n xs).flatten (List.replicate n vs).flatten
  | 0 => rfl
  | n + 1 => by
    rw [List.replicate_succ, List.replicate_succ, List.flatten_cons, List.flatten_cons]
    exact Reps.append h (Reps.flat h n)
def RepOk (n : Nat) (k : Int) : Prop := -(2 ^ 63) ≤ k ∧ k < 2 ^ 63 ∧ n * k.toNat ≤ 16777216
end
end Mi
set_option maxHeartbeats 1000000
namespace Mi
open PySem PySem.Spec L2 PyProof.Rows
open Evl (Ex)
/-! ### xs[i] += e -/
def rGetL : V → V → Hp → VK → Prop := fun o i H Q => ∃ p xs k v, o = .ref p ∧ i = .int k ∧ H p = some (.lst xs) ∧ 0 ≤ k ∧ xs[k.toNat]? = some v ∧ Q v H
section
variable {K : PySem.W.Frag} {W : WX} {F0 H0 F H F' H' F1 : Hp} {rt : VK} {PT : En → Prop} {env env' : En} {τ : Type} [ToD τ] [ToR τ] {KP : Res τ → Prop} {te ta tb tc : TE} {Z : Ends}
end
end Mi
set_option maxHeartbeats 1000000
namespace Mi
open PySem PySem.Spec L2
open Evl (Ex)
section
variable {K : PySem.W.Frag}
theorem flat_strV : ∀ ns : List Str, (ns.map V.str).all flatV = true
  | [] => rfl
  | n :: ns => by rw [List.map_cons, List.all_cons, flat_strV ns]; rfl
theorem in_strV (x : Str) : ∀ ns : List Str, inV (.str x) (ns.map V.str) = decide (x ∈ ns)
  | [] => by simp [inV]
  | n :: ns => by
    have ih := in_strV x ns
    unfold inV at ih ⊢
    rw [List.map_cons, List.any_cons, ih]
    by_cases h : x = n
    · subst h; simp [eqV]
    · have : (n == x) = false := by simp; exact fun z => h z.symm
      simp [eqV, h, this]
/-- what holds items -/
class Holds (σ : Type) (α : Type) [ToD α] [ToD σ] where
  xs : σ → List α
  at_ : ∀ (K : PySem.W.Frag) (F H : Hp) (y : σ) (u : V), Ex F H → Rep K F (toD y) u → ∃ p vs, u = .ref p ∧ (SqL K H p vs ∨ SqT K H p vs) ∧ Reps K F ((xs y).map toD) vs
instance {α : Type} [ToD α] : Holds (List α) α := ⟨fun x => x, fun K F H y u e h => by
  obtain ⟨a, vs, rfl, hl, hr⟩ := h
  exact ⟨a, vs, rfl, .inl (sq_ex e hl), hr⟩⟩
instance {α : Type} [ToD α] : Holds (Ro α) α := ⟨fun x => x.xs, fun K F H y u e h => by
  obtain ⟨a, vs, rfl, hl, hr⟩ := h
  exact ⟨a, vs, rfl, .inl (Evl.ex_l e hl), hr⟩⟩
instance {α : Type} [ToD α] : Holds (Tu α) α := ⟨fun x => x.xs, fun K F H y u e h => by
  obtain ⟨a, vs, rfl, hl, hr⟩ := h
  exact ⟨a, vs, rfl, .inr (Evl.ex_t e hl), hr⟩⟩
theorem opx_inS {σ : Type} [ToD σ] [Hd : Holds σ Str] (neg : Bool) : OpX K (rIn K neg) (fun (x : Str) (ys : σ) => .ok (if neg then !decide (x ∈ Hd.xs ys) else decide (x ∈ Hd.xs ys))) := fun F H x y v u Q e h1 h2 k => by
  obtain ⟨p, vs, rfl, hq, hr⟩ := Hd.at_ K F H y u e h2
  cases (show v = V.str x from h1)
  have hr : Reps K F ((Hd.xs y).map D.str) vs := hr
  have q := hr.strs
  subst q
  refine ⟨p, _, rfl, hq, rfl, flat_strV _, ?_⟩
  rw [in_strV]
  exact k _ F H (Adv.refl e) rfl
end
end Mi
set_option maxHeartbeats 1000000
namespace Mi
open PySem PySem.Spec PyProof.Rows L2
open Evl (Ex)
/-! ### a method whose last row is super().__init__(..) -/
structure FnScopeS (N P : List Str) (sc : Scope) : Prop where
  kind : sc.kind = .function
  co : sc.isCoroutine = false
  gen : sc.isGenerator = false
  nd : N.Nodup
  pre : N.take P.length = P
  par : ∀ x ∈ P, sc.names.lookup x = some .local
  nocell : ∀ y ∈ sc.names, y.2 ≠ .cell
  only : ∀ y ∈ sc.names, y.2 = .free → y.1 = ("__class__" : Str)
  sup : sc.names.lookup ("super" : Str) = some .globalImplicit
  cls : sc.names.lookup ("__class__" : Str) = some .free
/-- where it stands -/
structure FunS (K : PySem.W.Frag) (x qual : Str) (params : Arguments) (body : List Stmt) (scope : Scope) (f cc cda D : Addr) (file : Str) (fd : FuncData) : Prop where
  ex : ∃ (oc : Value) (od : Option Addr) (doc pm : Value) (an : Option Addr) (ct : Value) (osl : Array (Option Value)), fd = PySem.W.ksFn x qual params body scope .none .none doc pm an (.ref cda) ct cc ∧ K.lookup f = some ⟨oc, od, .func fd, osl⟩ ∧ PySem.W.codeIn K (.ref cda) qual = true
  kp : PySem.W.keepIn K (.ref f) = true
  code : ∃ (ccl : Value) (cdd : Option Addr) (vs : Array Value) (ccs : Array (Option Value)) (tf : Tok), K.lookup cda = some ⟨ccl, cdd, .fields vs, ccs⟩ ∧ vs[2]? = some (.str file tf)
  cell : ∃ (cl : Value) (cld : Option Addr) (csl : Array (Option Value)), K.lookup cc = some ⟨cl, cld, .cell (some (.ref D)), csl⟩
/-- what super().__init__ of an instance of C, from within D, comes to: g -/
structure SupF (K : PySem.W.Frag) (C D g : Addr) : Prop where
  dcl : ∃ cd, PySem.W.clsIn K D = some cd
  ccl : ∃ cd, PySem.W.clsIn K C = some cd
  sub : PySem.W.mroIn K C (.ref D) = some true
  op : PySem.W.nsIn K cStatics "thirdparty.any" = some none
  mt : PySem.W.ks_superIn K C D "__init__" = some (some (.ref g))
  ty : PySem.W.typeIn K (.ref g) = some (.type "function")
  fi : PySem.W.fnIn K g = true
abbrev envS (qual : Str) (scope : Scope) (L a : Addr) (cda cc : Addr) : Env := PySem.W.ksEnv qual scope L a (.ref cda) cc
def cxS (CX : CXT) (P : Program) (w : World) (K : PySem.W.Frag) (mg : Str → Option Value) (base : Heap) (N : List Str) (qual : Str) (scope : Scope) (f cda cc : Addr) (A : Around) (outer : List Env) (s : Shared) (H : Hp) (E : XK) : Cx where
  prog := P
  w := w
  K := K
  mg := mg
  base := base
  A := A.deeper (envS qual scope s.heap.objs.size f cda cc)
  N := N
  s_0 := s
  H_0 := H
  env := envS qual scope s.heap.objs.size f cda cc
  outer := outer
  stack := envS qual scope s.heap.objs.size f cda cc :: outer
  ex := []
  calm := true
  fn := fun _ => false
  pn := []
  xe := fun e s' => wpAny (model P w) (A.deeper (envS qual scope s.heap.objs.size f cda cc)) (leaving (envS qual scope s.heap.objs.size f cda cc) e) (fun _ s'' => CX outer H s E e s'') (fun e' s'' => CX outer H s E e' s'') s'
/-- rows of a body that runs as such -/
structure PSf (X : Cx) (c : Code) (st : List Stmt) (t : TS) : Prop where
  run : ∀ (pins : List (Addr × Obj)) (s : Shared) (σ : L2.St) (H : Hp) (D : Ends), Inv X pins σ H s → t D σ H → _root_.PySem.wpAt (model X.prog X.w) X.A c (execs st X.env) (SP X pins D) X.xe s
/-- super().__init__(..), the last row -/
def tSuper (C g : Addr) (sp : Sp) (E : XK) (t : TA) : TS := fun D σ H => ∃ p dx fs, σ[0]? = some (some (.ref p)) ∧ H p = some (.ins C dx fs) ∧ t σ H fun vs H1 => sp (.ref p :: vs) H1 (fun _ H2 => D.nx σ H2) E
end Mi
set_option maxHeartbeats 1000000
namespace Mi
open PySem PySem.Spec PyProof.Rows L2
open Evl (Ex)
/-! ### what the head tells -/
abbrev FnC : Type := Option (Str × Str × Arguments × FuncBody × Scope × Addr × List Str × Value × Value × Addr)
/-- a method that says super(): its class, the def's place in it -/
structure SupD where
  cls : Str
  name : Str
  qual : Str
  params : Arguments
  body : List Stmt
  scope : Scope
  file : Str
def SupD.val (d : SupD) : FnC := some (d.name, d.qual, d.params, .stmts d.body, d.scope, mainGlobals, [("__class__" : Str)], .none, .none, builtinsNs)
def SupD.ad (K : PySem.W.Frag) (d : SupD) : Addr := He.ma K (He.ga K d.cls) d.name
def fnC (K : PySem.W.Frag) (a : Addr) : FnC := match K.lookup a with
  | some o => (match o.data with
    | .func fd => some (fd.name, fd.qualname, fd.params, fd.body, fd.scope, fd.globals, fd.closure.map (·.1), fd.defaults, fd.kwdefaults, fd.builtins)
    | _ => none)
  | none => none
def fnData (K : PySem.W.Frag) (a : Addr) : Option FuncData := match K.lookup a with
  | some o => (match o.data with
    | .func fd => some fd
    | _ => none)
  | none => none
def cellB (K : PySem.W.Frag) (c D : Addr) : Bool := match K.lookup c with
  | some o => (match o.data with
    | .cell (some (.ref d)) => d == D
    | _ => false)
  | none => false
def codeB (K : PySem.W.Frag) (c : Addr) (file : Str) : Bool := match K.lookup c with
  | some o => (match o.data with
    | .fields vs => (match (vs[2]? : Option Value) with
      | some (.str z _) => decide (z = file)
      | _ => false)
    | _ => false)
  | none => false
def SupD.ok (K : PySem.W.Frag) (d : SupD) : Bool := PySem.W.keepIn K (.ref (d.ad K)) && (match fnData K (d.ad K) with
  | some fd => PySem.W.codeIn K fd.code d.qual && (match fd.code, fd.closure with
    | .ref c, [(_, cc)] => codeB K c d.file && cellB K cc (He.ga K d.cls)
    | _, _ => false)
  | none => false)
theorem lookO {K : PySem.W.Frag} {a : Addr} {o : Obj} (h : K.lookup a = some o) {dt : Data} (e : o.data = dt) : K.lookup a = some ⟨o.cls, o.dict, dt, o.slots⟩ := by rw [h, ← e]
theorem cellB_ok {K : PySem.W.Frag} {c D : Addr} (h : cellB K c D = true) : ∃ (cl : Value) (cld : Option Addr) (csl : Array (Option Value)), K.lookup c = some ⟨cl, cld, .cell (some (.ref D)), csl⟩ := by
  unfold cellB at h
  split at h
  · rename_i o q
    split at h
    · rename_i d e
      have : d = D := beq_iff_eq.mp h
      subst this
      exact ⟨_, _, _, lookO q e⟩
    · cases h
  · cases h
theorem codeB_ok {K : PySem.W.Frag} {c : Addr} {file : Str} (h : codeB K c file = true) : ∃ (ccl : Value) (cdd : Option Addr) (vs : Array Value) (ccs : Array (Option Value)) (tf : Tok), K.lookup c = some ⟨ccl, cdd, .fields vs, ccs⟩ ∧ vs[2]? = some (.str file tf) := by
  unfold codeB at h
  split at h
  · rename_i o q
    split at h
    · rename_i vs e
      split at h
      · rename_i z t e2
        have : z = file := of_decide_eq_true h
        subst this
        exact ⟨_, _, _, _, _, lookO q e, e2⟩
      · cases h
    · cases h
  · cases h
theorem supD_ok {K : PySem.W.Frag} {d : SupD} (e : fnC K (d.ad K) = d.val) (h : d.ok K = true) : ∃ fd cc cda, FunS K d.name d.qual d.params d.body d.scope (d.ad K) cc cda (He.ga K d.cls) d.file fd := by
  unfold SupD.ok at h
  obtain ⟨kp, h⟩ := He.ba h
  split at h
  · rename_i fd q
    obtain ⟨hc, h⟩ := He.ba h
    unfold fnData at q
    split at q
    · rename_i o lk
      split at q
      · rename_i fd' e1
        cases q
        unfold fnC at e
        rw [lk] at e
        dsimp only at e
        rw [e1] at e
        split at h
        · rename_i c y cc e2 e3
          obtain ⟨h1, h2⟩ := He.ba h
          obtain ⟨n1, n2, n3, n4, n5, n6, n7, n8, n9, n10, n11, n12, n13, n14, n15⟩ := fd
          dsimp only at e2 e3 hc
          subst e2 e3
          unfold SupD.val at e
          simp only [Option.some.injEq, Prod.mk.injEq, List.map_cons, List.map_nil, List.cons.injEq, and_true] at e
          obtain ⟨r1, r2, r3, r4, r5, r6, r7, r8, r9, r10⟩ := e
          subst r1 r2 r3 r4 r5 r6 r7 r8 r9 r10
          exact ⟨_, cc, c, ⟨_, _, _, _, _, _, _, rfl, lookO lk e1, hc⟩, kp, codeB_ok h1, cellB_ok h2⟩
        · cases h
      · cases q
    · cases q
  · cases h
/-- super().__init__ of an instance of c within D: which def -/
def supB (K : PySem.W.Frag) (c D g : Str) : Bool := (PySem.W.clsIn K (He.ga K D)).isSome && ((PySem.W.clsIn K (He.ga K c)).isSome && (decide (PySem.W.mroIn K (He.ga K c) (.ref (He.ga K D)) = some true) && (He.eqO (PySem.W.nsIn K cStatics "thirdparty.any") (some none) &&
  (He.eqO (PySem.W.ks_superIn K (He.ga K c) (He.ga K D) "__init__") (some (some (.ref (He.ma K (He.ga K g) "__init__")))) && (decide (PySem.W.typeIn K (.ref (He.ma K (He.ga K g) "__init__")) = some (.type "function")) && PySem.W.fnIn K (He.ma K (He.ga K g) "__init__"))))))
/-! ### dicts of the top with text keys -/
def tabB (K : PySem.W.Frag) (a : Addr) (kvs : List (Str × D)) : Bool := kvs.all fun q => match PySem.W.nsIn K a q.1 with
  | some (some u) => repB K q.2 u
  | _ => false
/-- a name of the module that stands for such a dict -/
structure TabF (K : PySem.W.Frag) (w : World) (mg : Str → Option Value) (x : Str) (kvs : List (Str × D)) : Prop where
  m : mg x = some (.ref (He.ga K x))
  d : ∃ es n, KDict K w (He.ga K x) es n
  hit : ∀ z d, kvs.lookup z = some d → ∃ u v, PySem.W.nsIn K (He.ga K x) z = some (some u) ∧ RelV v u ∧ ∀ F, Rep K F d v
  miss : ∀ z, kvs.lookup z = none → PySem.W.nsIn K (He.ga K x) z = some none
/-! ### the hook -/
abbrev AlY : Type := He.AlT × Bool × List FnC
def asY (g : Addr → Option Obj) (n : Nat) : List Addr := He.asD g n ++ [cStatics]
def obsY (n : Nat) (fa : List He.Fa) (fn : List He.DefD) (ts : List He.Tab) (ss : List SupD) (ex : PySem.W.Frag → Bool) (g : Addr → Option Obj) : AlY :=
  (He.obsT fa fn ts (He.frT g (asY g n)), ex (He.frT g (asY g n)) && ss.all (SupD.ok (He.frT g (asY g n))), ss.map fun d => fnC (He.frT g (asY g n)) (d.ad (He.frT g (asY g n))))
def valY (fn : List He.DefD) (ts : List He.Tab) (ss : List SupD) (w : World) : AlY := (He.valT fn ts w, true, ss.map SupD.val)
structure SaysY (fa : List He.Fa) (fn : List He.DefD) (ts : List He.Tab) (ss : List SupD) (ex : PySem.W.Frag → Bool) (w : World) (K : PySem.W.Frag) : Prop where
  t : He.SaysT fa fn ts w K
  more : ex K = true
  sup : ∀ d ∈ ss, ∃ fd cc cda, FunS K d.name d.qual d.params d.body d.scope (d.ad K) cc cda (He.ga K d.cls) d.file fd
theorem saysY_of {n : Nat} {fa : List He.Fa} {fn : List He.DefD} {ts : List He.Tab} {ss : List SupD} {ex : PySem.W.Frag → Bool} {w : World} {h : Heap} (e : obsY n fa fn ts ss ex h.get? = valY fn ts ss w) : SaysY fa fn ts ss ex w (He.frT h.get? (asY h.get? n)) := by
  have e2 : (ex (He.frT h.get? (asY h.get? n)) && ss.all (SupD.ok (He.frT h.get? (asY h.get? n)))) = true := congrArg (fun z : AlY => z.2.1) e
  have e3 : (ss.map fun d => fnC (He.frT h.get? (asY h.get? n)) (d.ad (He.frT h.get? (asY h.get? n)))) = ss.map SupD.val := congrArg (fun z : AlY => z.2.2) e
  obtain ⟨h1, h2⟩ := He.ba e2
  exact ⟨congrArg (fun z : AlY => z.1) e, h1, fun d hd => supD_ok (List.map_inj_left.mp e3 d hd) (List.all_eq_true.mp h2 d hd)⟩
def hookY (n : Nat) (fa : List He.Fa) (fn : List He.DefD) (ts : List He.Tab) (ss : List SupD) (ex : PySem.W.Frag → Bool) : PySem.W.Hook where
  α := AlY
  obs := fun s => obsY n fa fn ts ss ex s.heap.get?
  val := fun w => valY fn ts ss w
  says := fun w h => ∃ K : PySem.W.Frag, K.In h ∧ SaysY fa fn ts ss ex w K
  of := fun _ _ e => ⟨_, He.frT_in, saysY_of e⟩
  keeps := fun _ _ _ ⟨K, hK, c⟩ k => ⟨K, PySem.W.Frag.In.keeps hK k, c⟩
/-! ### a dict of the top, read -/
def dget {α : Type} (kvs : List (Str × α)) (z : Str) : Res α := match kvs.lookup z with
  | some x => .ok x
  | none => .stuck
def din {α : Type} (kvs : List (Str × α)) (z : Str) : Bool := (kvs.lookup z).isSome
abbrev tabD {α : Type} [ToD α] (kvs : List (Str × α)) : List (Str × D) := kvs.map fun p => (p.1, toD p.2)
def rInD (K : PySem.W.Frag) (a : Addr) (neg : Bool) : R2 := fun x y H Q => ∃ (z : Str) (r : Option Value), x = .str z ∧ y = .ref a ∧ PySem.W.nsIn K a z = some r ∧ Q (.bl (if neg then !r.isSome else r.isSome)) H
section
variable {K : PySem.W.Frag} {w : World} {mg : Str → Option Value} {x : Str} {kvs : List (Str × D)}
variable {W : WX} {env : En} {te : TE} {α : Type} [ToD α] {l : List (Str × α)}
end
/-! ### one of two -/
inductive Un (α β : Type) where
  | l (x : α) | r (y : β)
instance {α β : Type} [ToD α] [ToD β] : ToD (Un α β) := ⟨fun u => match u with | .l x => ToD.d x | .r y => ToD.d y⟩
def Un.asL {α β : Type} : Un α β → Res α
  | .l x => .ok x
  | .r _ => .stuck
def Un.asR {α β : Type} : Un α β → Res β
  | .l _ => .stuck
  | .r y => .ok y
section
variable {α β : Type} [ToD α] [ToD β]
end
def orR {α : Type} : Res α → Res α → Res α
  | .stuck, m => m
  | .ok x, _ => .ok x
  | .exc c, _ => .exc c
def tAlt (ta tb : TE) : TE := fun σ H Q => ta σ H Q ∨ tb σ H Q
/-! ### super().__init__ in blocks -/
theorem FunS.bindsN {K : PySem.W.Frag} {x qual : Str} {params : Arguments} {body : List Stmt} {scope : Scope} {f cc cda D : Addr} {file : Str} {fd : FuncData} {ps : List Str} (F : FunS K x qual params body scope f cc cda D file fd)
    (h : ∀ (doc pm : Value) (an : Option Addr) (ct : Value) (us : List Value), us.length = ps.length → bindArgs (PySem.W.ksFn x qual params body scope .none .none doc pm an (.ref cda) ct cc) ⟨us, []⟩ = pure (ps.zip us)) : Binds K fd ps [] := by
  obtain ⟨oc, od, doc, pm, an, ct, osl, rfl, lk, hcd⟩ := F.ex
  exact .all (h doc pm an ct)
section
variable {P : Program} {w : World} {K : PySem.W.Frag} {mg : Str → Option Value} {base : Heap} {x qual file : Str} {params : Arguments} {body : List Stmt} {scope : Scope} {f cc cda D : Addr} {fd : FuncData}
end
/-! ### the head's run, looked at in two pieces -/
section
open PySem.W PySem.Calls PyProof.Rows HandSHeadRun
def RunOb {β : Type} (P : Program) (f : SharedT → β) (M : Nat) (w : World) (v : β) : Prop := ∀ os : OsState, (endF (stepQ (denQ tabQ) P w) M P w os).map f = some v
noncomputable abbrev seeOb (r : OpenRow) (q : Program) (loose : List PySem.Str) (w : World) :=
  fun s : SharedT => (looksF r.prog (boot_heap w.params) s.abs, seenQ q loose (importedModules r.prog.main.body) (fun s => xlAt q [] s && recOk r.toRowW.records s) s.abs)
end
end Mi
set_option maxHeartbeats 1000000
namespace Mi
open PySem PySem.Spec L2
/-! ### a try of several clauses without names; statements that are never reached -/
/-- the outcome of the clauses for an error of class c -/
def pickR {τ : Type} (sub : Str → Str → Bool) (c : Str) : List (Str × Res τ) → Res τ
  | [] => .exc c
  | (x, m) :: r => if sub c x = true then m else pickR sub c r
def tryM {S τ : Type} (known : Str → Bool) (sub : Str → Str → Bool) (m : Res (Fall S τ)) (rest : S → Res τ) (hs : List (Str × Res τ)) : Res τ := match m with
  | .ok (.go s) => rest s
  | .ok (.back x) => .ok x
  | .exc c => if known c = true then pickR sub c hs else .stuck
  | .stuck => .stuck
def tTryM (K : PySem.W.Frag) (l : List (Value × (Addr → Value → Option Addr → TS))) (W : WX) (tb : WX → TS) : TS := fun D σ H => tb (wMany K W D l) D σ H
section
variable {X : Cx} {body : List Stmt} {h₀ : ExceptHandler} {hds : List ExceptHandler} {l : List (Value × (Addr → Value → Option Addr → TS))} {pos : Pos} {tb : WX → TS} {Wout : WX}
theorem ps_tryM (hs : X.stack = X.env :: X.outer) (hf : X.env.frame = some X.env.locals) (tk : Takes X Wout)
    (hb : ∀ (W : WX) (pn : List (Addr × Obj)) (xe : Value → Shared → Prop), Takes (X.tr pn xe) W → PassesOwn (model X.prog X.w) X.A X.env xe → PSs (X.tr pn xe) body (tb W))
    (hh : HdsOk X (h₀ :: hds) l) : PS X (.Try body (h₀ :: hds) [] [] pos) (tTryM X.K l Wout tb) := ps_try_many hs hf tk hb hh
end
section
variable {K : PySem.W.Frag} {W : WX} {F0 H0 F H : Hp} {rt : VK} {PT : En → Prop} {env env' : En} {τ : Type} [ToD τ] [ToR τ] {KP : Res τ → Prop} {Z : Ends}
inductive HdB (K : PySem.W.Frag) (F0 H0 : Hp) {τ : Type} (KP : Res τ → Prop) (Z : Ends) (env : En) (cs : List Str) : List (Value × (Addr → Value → Option Addr → TS)) → List (Str × Res τ) → Prop
  | nil : HdB K F0 H0 KP Z env cs [] []
  | cons {x : Str} {ts : Addr → Value → Option Addr → TS} {mh : Res τ} {l : List (Value × (Addr → Value → Option Addr → TS))} {hs : List (Str × Res τ)} (hx : x ∈ cs)
      (hb : ∀ (a : Addr) (cls : Value), Blk K F0 H0 KP (ts a cls none Z) env mh) (r : HdB K F0 H0 KP Z env cs l hs) : HdB K F0 H0 KP Z env cs ((.ref (He.ga K x), ts) :: l) ((x, mh) :: hs)
theorem HdB.go {cs : List Str} {sub : Str → Str → Bool} {c : Str} {σ : L2.St} (L : Lk K W F0 H0 rt PT KP) (hT : PT env) (C : Cls K cs sub) (hc : c ∈ cs) (S2 : Sl K F0 H0 F H σ env) :
    ∀ {l : List (Value × (Addr → Value → Option Addr → TS))} {hs : List (Str × Res τ)}, HdB K F0 H0 KP Z env cs l hs → KP (pickR sub c hs) → wMany K W Z l (.ref (He.ga K c)) none σ H
  | _, _, .nil, h => L.exc c F H σ env h hT S2
  | _, _, .cons (x := x) (mh := mh) (hs := hs) hx hb r, h => by
    have h : KP (if sub c x = true then mh else pickR sub c hs) := h
    refine ⟨sub c x, C.exm c hc x hx, fun q a ha => ?_, fun q => ?_⟩
    · rw [if_pos q] at h
      exact hb a _ F H σ S2 h
    · rw [if_neg (by rw [q]; decide)] at h
      exact HdB.go L hT C hc S2 r h
theorem blk_tryM {S : Type} {cs : List Str} {sub : Str → Str → Bool} {l : List (Value × (Addr → Value → Option Addr → TS))} {tb : WX → TS} {envS : S → En} {m : Res (Fall S τ)} {rest : S → Res τ} {hs : List (Str × Res τ)}
    (L : Lk K W F0 H0 rt PT KP) (hT : PT env) (C : Cls K cs sub)
    (hb : ∀ (W' : WX) (KP' : Res (Fall S τ) → Prop), Lk K W' F0 H0 rt (fun e => EnLe e env) KP' → (∀ s, Blk K F0 H0 KP' Z.nx (envS s) (.ok (.go s))) → Blk K F0 H0 KP' (tb W' Z) env m)
    (hh : HdB K F0 H0 KP Z env cs l hs)
    (hr : ∀ s, Blk K F0 H0 KP Z.nx (envS s) (rest s)) (hZ : Z.rt = rt := by rfl) :
    Blk K F0 H0 KP (tTryM K l W tb Z) env (tryM (fun c => decide (c ∈ cs)) sub m rest hs) := fun F H σ S1 h => by
  subst hZ
  refine hb (wMany K W Z l) (fun r => KP (tryM (fun c => decide (c ∈ cs)) sub r rest hs)) ⟨fun y h v F H a r => ?_, fun c F H σ env' h p S' => ?_, L.no⟩ (fun s F H σ S h => hr s F H σ S h) F H σ S1 h
  · cases y with
    | go s => exact (no_go r).elim
    | back y => exact fun q => L.ok y h v F H a r q
  · have h : KP (if decide (c ∈ cs) = true then pickR sub c hs else .stuck) := h
    by_cases hc : c ∈ cs
    · rw [if_pos (decide_eq_true hc)] at h
      exact HdB.go L hT C hc (S'.weak p) hh h
    · rw [if_neg (by rw [decide_eq_false hc]; decide)] at h
      exact (L.no h).elim
end
end Mi
set_option maxHeartbeats 1000000
namespace Mi
open PySem PySem.Spec L2
/-! ### zip of two lists; texts in the text of an error -/
theorem pi_zipK {X : Cx} {K : PySem.W.Frag} {e e2 : Expr} {ta : TA} {p pos tpos : Pos} {elts : List Expr} {kk : Nat} (h : X.K = K) (hg : Gl X "zip") (hm : X.mg "zip" = none) (ha : PA X [e, e2] ta)
    (hs : starEach [e, e2] X.env = (false, eval e X.env) :: starEach [e2] X.env := by rfl) (hpl : (backTo pos (starEach [e2] X.env)).any (·.1) = false := by rfl) :
    PI X (.Tuple elts kk tpos) (.Call (.Name "zip" p) [e, e2] [] pos) (iZip K ta) := by
  subst h; exact pi_zip hg hm ha hs hpl
section
variable {K : PySem.W.Frag} {W : WX} {F0 H0 F H F' H' F1 : Hp} {env : En} {α β : Type} [ToD α] [ToD β]
theorem js_zip {a b : Addr} {vs ws : List V} {xs ys : List D} (h1 : SqL K F a vs) (r1 : Reps K F xs vs) (h2 : SqL K F b ws) (r2 : Reps K F ys ws) : JS K F (Itz K a b) ((xs.zip ys).map fun q => D.tup [q.1, q.2]) := by
  have n1 := r1.length
  have n2 := r2.length
  have hn : ((xs.zip ys).map fun q => D.tup [q.1, q.2]).length = min vs.length ws.length := by rw [List.length_map, List.length_zip, n1, n2]
  refine ⟨fun i H e hi => ?_, fun i H e hi => ?_, fun i H v H' F1 e1 e2 hi hy => ?_⟩
  · rw [hn] at hi
    exact ⟨vs, ws, vs[i]'(by omega), ws[i]'(by omega), Evl.ex_l e h1, Evl.ex_l e h2, List.getElem?_eq_getElem (by omega), List.getElem?_eq_getElem (by omega)⟩
  · rw [hn] at hi
    exact ⟨vs, ws, Evl.ex_l e h1, Evl.ex_l e h2, by omega⟩
  · rw [hn] at hi
    obtain ⟨T, x, y, rfl, hT, rfl, f1, f2⟩ := hy
    have g1 := f1 vs (Evl.ex_l (e1.trans e2) h1)
    have g2 := f2 ws (Evl.ex_l (e1.trans e2) h2)
    obtain ⟨w1, q1, q2⟩ := r1.get (i := i) (e := xs[i]'(by omega)) (List.getElem?_eq_getElem (by omega))
    obtain ⟨w2, q3, q4⟩ := r2.get (i := i) (e := ys[i]'(by omega)) (List.getElem?_eq_getElem (by omega))
    rw [g1] at q1; cases q1
    rw [g2] at q3; cases q3
    have a2 : Adv F1 H (upd F1 T (.tup [x, y])) (upd H T (.tup [x, y])) := Adv.new e2 hT
    refine ⟨_, D.tup [xs[i]'(by omega), ys[i]'(by omega)], a2, ?_, ?_⟩
    · rw [List.getElem?_map, List.getElem?_eq_getElem (by rw [List.length_zip]; omega), List.getElem_zip]; rfl
    · have rr : Reps K F1 [xs[i]'(by omega), ys[i]'(by omega)] [x, y] := ⟨x, [y], rfl, Rep.mono e1 _ _ q2, y, [], rfl, Rep.mono e1 _ _ q4, rfl⟩
      exact ⟨T, _, rfl, .inl (.inl upd_same), Reps.mono a2.f _ _ rr⟩
theorem zip_toD : ∀ (xs : List α) (ys : List β), (List.zipWith T2.mk xs ys).map toD = ((xs.map toD).zip (ys.map toD)).map fun q => D.tup [q.1, q.2]
  | [], _ => by simp
  | _ :: _, [] => by simp
  | x :: r, y :: s => by
    show toD (T2.mk x y) :: (List.zipWith T2.mk r s).map toD = _
    rw [zip_toD r s]; rfl
theorem ei_zip {t : TA} {m : Res (List α × List β × Unit)} (h : EvA K W env t m) : EvI K W env (iZip K t) (m.bind fun y => .ok (List.zipWith T2.mk y.1 y.2.1)) := fun F0 H0 F H σ R S k => by
  refine h F0 H0 F H σ _ S ?_
  cases m with
  | ok y =>
    obtain ⟨xs, ys, u⟩ := y
    intro vs F1 H1 a r
    obtain ⟨v, r', rfl, ra, w, r'', rfl, rb, rfl⟩ := r
    obtain ⟨p, vs, rfl, h1, h2⟩ := ra
    obtain ⟨q, ws, rfl, h3, h4⟩ := rb
    refine ⟨p, q, vs, ws, rfl, sq_ex a.in_ h1, sq_ex a.in_ h3, ?_⟩
    have k : KI K W F H σ R (.ok (List.zipWith T2.mk xs ys)) := k
    refine k _ F1 H1 a ?_
    rw [zip_toD]
    exact js_zip (Evl.sq_of h1) h2 (Evl.sq_of h3) h4
  | exc c => exact k
  | stuck => exact k.elim
/-- a part of a slice, as the def works it out -/
def KPt (K : PySem.W.Frag) (W : WX) (F H : Hp) (σ : L2.St) (Q : Option Int → Hp → Prop) : Res (Option Int) → Prop
  | .ok o => ∀ F' H', Adv F H F' H' → Q o H'
  | .exc c => ∀ F' H', Adv F H F' H' → W (.ref (He.ga K c)) none σ H'
  | .stuck => False
def EvPt (K : PySem.W.Frag) (W : WX) (env : En) (tp : TO) (m : Res (Option Int)) : Prop := ∀ F0 H0 F H σ Q, Sl K F0 H0 F H σ env → KPt K W F H σ Q m → tp σ H Q
end
end Mi
set_option maxHeartbeats 4000000
namespace Mi
open PySem PySem.Spec L2
open Evl (Ex)
section
open PySem.W PySem.Calls PyProof.Rows RT
/-- list(reversed(x)), x a list: a new list -/
def tLRev (K : PySem.W.Frag) (te : TE) : TE := fun σ H Q => te σ H fun v H1 => ∃ (a : Addr) (xs : List V), v = .ref a ∧ SqL K H1 a xs ∧ ∀ q, H1 q = none → Q (.ref q) (upd H1 q (.lst xs.reverse))
variable {K : PySem.W.Frag} {W : WX} {env : En} {te : TE} {α : Type} [ToD α]
end
end Mi
set_option maxHeartbeats 1000000
namespace Mi
open PySem PySem.Spec L2
open Evl (Ex)
/-! ### the hook with addresses that are given -/
def lookZ (fa : List He.Fa) (fn : List He.DefD) (ts : List He.Tab) (ss : List SupD) (ex : PySem.W.Frag → Bool) (K : PySem.W.Frag) : AlY :=
  (He.obsT fa fn ts K, ex K && ss.all (SupD.ok K), ss.map fun d => fnC K (d.ad K))
def obsZ (as : List Addr) (fa : List He.Fa) (fn : List He.DefD) (ts : List He.Tab) (ss : List SupD) (ex : PySem.W.Frag → Bool) (g : Addr → Option Obj) : AlY := lookZ fa fn ts ss ex (He.frT g as)
theorem saysZ_of {fa : List He.Fa} {fn : List He.DefD} {ts : List He.Tab} {ss : List SupD} {ex : PySem.W.Frag → Bool} {w : World} {K : PySem.W.Frag} (e : lookZ fa fn ts ss ex K = valY fn ts ss w) : SaysY fa fn ts ss ex w K := by
  have e2 : (ex K && ss.all (SupD.ok K)) = true := congrArg (fun z : AlY => z.2.1) e
  have e3 : (ss.map fun d => fnC K (d.ad K)) = ss.map SupD.val := congrArg (fun z : AlY => z.2.2) e
  obtain ⟨h1, h2⟩ := He.ba e2
  exact ⟨congrArg (fun z : AlY => z.1) e, h1, fun d hd => supD_ok (List.map_inj_left.mp e3 d hd) (List.all_eq_true.mp h2 d hd)⟩
def hookZ (as : List Addr) (fa : List He.Fa) (fn : List He.DefD) (ts : List He.Tab) (ss : List SupD) (ex : PySem.W.Frag → Bool) : PySem.W.Hook where
  α := AlY
  obs := fun s => obsZ as fa fn ts ss ex s.heap.get?
  val := fun w => valY fn ts ss w
  says := fun w h => ∃ K : PySem.W.Frag, K.In h ∧ SaysY fa fn ts ss ex w K
  of := fun _ _ e => ⟨_, He.frT_in, saysZ_of e⟩
  keeps := fun _ _ _ ⟨K, hK, c⟩ k => ⟨K, PySem.W.Frag.In.keeps hK k, c⟩
theorem obsZ_eq {as : List Addr} {fa : List He.Fa} {fn : List He.DefD} {ts : List He.Tab} {ss : List SupD} {ex : PySem.W.Frag → Bool} {g : Addr → Option Obj} {s : Shared} (h : ∀ a, g a = s.heap.get? a) : obsZ as fa fn ts ss ex g = (hookZ as fa fn ts ss ex).obs s := by
  have e : g = s.heap.get? := funext h
  rw [e] <;> rfl
end Mi
set_option maxHeartbeats 1000000
namespace Mi
open PySem PySem.Spec L2
open Evl (Ex)
section
variable {K : PySem.W.Frag} {W : WX} {env : En} {te : TE} {α β : Type} [ToD α] [ToD β]
end
end Mi
set_option maxHeartbeats 1000000
namespace Mi
open PySem PySem.Spec L2
open PyProof.Rows
open Evl (Ex)
/-! ### calls with keywords, and with keyword-only parameters that lack -/
def tCallNS (n m : Nat) (sp : Sp) (gV : List V → List V → List V) (E : L2.St → XK) (t tk : TA) : TE := fun σ H Q => t σ H fun vs H1 => tk σ H1 fun zs H2 => vs.length = n ∧ zs.length = m ∧ sp (gV vs zs) H2 Q (E σ)
section
variable {X : Cx} {CX : CXT} {k n : Nat} {f : Addr} {fd : FuncData} {ps ks : List Str} {sp : Sp} {E : L2.St → XK} {x : Str} {p pos : Pos} {e : Expr} {es : List Expr} {kws : List Keyword} {t tk : TA} {g : List Value → List Value → List Value} {gV : List V → List V → List V}
end
section
variable {K : PySem.W.Frag} {W : WX} {env : En} {te : TE} {α β : Type} [ToD α] [ToD β]
end
/-- a value of any kind read as a pair of integers, or None -/
def D.asP2 : D → Res (Option (T2 Int Int))
  | .non => .ok none
  | .tup [.int x, .int y] => .ok (some ⟨x, y⟩)
  | _ => .stuck
def D.asTI : D → Res (T2 Int Int)
  | .tup [.int x, .int y] => .ok ⟨x, y⟩
  | _ => .stuck
/-! ### min and max of a pair of integers -/
def rMinP (K : PySem.W.Frag) : List V → Hp → VK → Prop := fun vs H Q => ∃ (a : Addr) (i j : Int), vs = [V.ref a] ∧ SqT K H a [.int i, .int j] ∧ Q (.int (min i j)) H
def rMaxP (K : PySem.W.Frag) : List V → Hp → VK → Prop := fun vs H Q => ∃ (a : Addr) (i j : Int), vs = [V.ref a] ∧ SqT K H a [.int i, .int j] ∧ Q (.int (max i j)) H
section
variable {X : Cx}
end
/-! ### max(xs, default=d) -/
def lmax0 (ns : List Int) (d : Int) : Int := match ns with | [] => d | y :: ys => ys.foldl max y
def tMaxD (K : PySem.W.Frag) (t tk : TA) : TE := fun σ H Q => t σ H fun vs H1 => tk σ H1 fun zs H2 => ∃ (a : Addr) (ns : List Int) (d : Int), vs = [V.ref a] ∧ zs = [V.int d] ∧ SqL K H2 a (ns.map V.int) ∧ Q (.int (lmax0 ns d)) H2
section
variable {X : Cx} {p pos : Pos} {e : Expr} {kws : List Keyword} {t tk : TA}
end
end Mi
set_option maxHeartbeats 1000000
namespace Mi
open PySem PySem.Spec L2
open Evl (Ex)
/-! ### two fors in a comprehension, without ifs -/
def compL2 {α β γ : Type} (it : α → Res (List β)) (el : α → β → Res γ) : List α → Res (List γ)
  | [] => .ok []
  | x :: xs => (it x).bind fun ys => (mapL (el x) ys).bind fun zs => (compL2 it el xs).bind fun r => .ok (zs ++ r)
theorem bind_ok_inv {α β : Type} {m : Res α} {f : α → Res β} {y : β} (h : m.bind f = .ok y) : ∃ x, m = .ok x ∧ f x = .ok y := by
  cases m with
  | ok x => exact ⟨x, rfl, h⟩
  | exc c => cases h
  | stuck => cases h
theorem compL2_inv {α β γ : Type} {it : α → Res (List β)} {el : α → β → Res γ} {x : α} {xs : List α} {r : List γ} (h : compL2 it el (x :: xs) = .ok r) : ∃ ys zs r', it x = .ok ys ∧ mapL (el x) ys = .ok zs ∧ compL2 it el xs = .ok r' ∧ r = zs ++ r' := by
  obtain ⟨ys, e1, h⟩ := bind_ok_inv h
  obtain ⟨zs, e2, h⟩ := bind_ok_inv h
  obtain ⟨r', e3, h⟩ := bind_ok_inv h
  cases h
  exact ⟨ys, zs, r', e1, e2, e3, rfl⟩
theorem mapL_inv {β γ : Type} {el : β → Res γ} {y : β} {ys : List β} {r : List γ} (h : mapL el (y :: ys) = .ok r) : ∃ z r', el y = .ok z ∧ mapL el ys = .ok r' ∧ r = z :: r' := by
  obtain ⟨z, e1, h⟩ := bind_ok_inv h
  obtain ⟨r', e2, h⟩ := bind_ok_inv h
  cases h
  exact ⟨z, r', e1, e2, rfl⟩
/-- the owned slots of an environment stand in another one, outside of ws -/
def OwnIn (e' e : En) (ws : List Nat) : Prop := ∀ (i : Nat) (sk : Sk), e'[i]? = some (some sk) → sk.own = true → e[i]? = some (some sk) ∧ i ∉ ws
theorem own_unset {e : En} {ws : List Nat} : OwnIn (unset ws e) e ws := fun i sk h _ => unset_get h
theorem own_stE {e e0 : En} {ws : List Nat} {i : Nat} {x : D} (h : OwnIn e e0 ws) : OwnIn (stE i x e) e0 ws := fun j sk h1 h2 => by
  rcases set_get h1 with ⟨_, z⟩ | ⟨_, z⟩
  · cases z; cases h2
  · exact h j sk z h2
section
variable {K : PySem.W.Frag} {W : WX} {env : En} {te : TE} {α β γ : Type} [ToD α] [ToD β] [ToD γ]
theorem ev_comp2 {wi wi1 : TI} {g g1 : TG} {m : Res (List α)} {fe : α → En → En} {fe1 : α → β → En → En} {ws ws1 : List Nat} {it : α → Res (List β)} {el : α → β → Res γ} (hi : EvI K W env wi m) (hg : ∀ x, GX K g (toD x) (fe x) ws)
    (hi1 : ∀ x, EvI K WT (fe x (unset ws env)) wi1 (it x)) (hg1 : ∀ x y, GX K g1 (toD y) (fe1 x y) ws1) (he : ∀ x y, EvX K WT (fe1 x y (unset ws1 (fe x (unset ws env)))) te (el x y)) (ho : ∀ x, OwnIn (fe x (unset ws env)) env ws) :
    EvN K W env (tLc2 wi g tYes wi1 g1 tYes te ws ws1) (m.bind fun xs => ((compL2 it el xs).noexc).bind fun zs => .need (zs.length ≤ 16777216) (.ok zs)) := fun F0 H0 F H σ Q S k => by
  refine hi F0 H0 F H σ _ S ?_
  cases m with
  | exc c => exact k
  | stuck => exact k.elim
  | ok xs =>
  intro J F1 H1 a1 js D hD
  have k : KN K W F H σ Q (((compL2 it el xs).noexc).bind fun zs => .need (zs.length ≤ 16777216) (.ok zs)) := k
  cases hr : compL2 it el xs with
  | exc c => rw [hr] at k; exact k.elim
  | stuck => rw [hr] at k; exact k.elim
  | ok zs =>
  rw [hr] at k
  have k : KN K W F H σ Q (.need (zs.length ≤ 16777216) (.ok zs)) := k
  by_cases c : zs.length ≤ 16777216
  case neg => rw [Res.need_neg c] at k; exact k.elim
  rw [Res.need_pos c] at k
  have hn : (xs.map toD).length = xs.length := List.length_map ..
  have hDF : F1 D = none := none_of_ex a1.in_ hD
  have hDH : H D = none := Evl.fresh_back a1.h hD
  have hne : ∀ (i : Nat) (sk : Sk), env[i]? = some (some sk) → sk.own = true → σ[i]? ≠ some (some (V.ref D)) := fun i sk e ho z => by
    obtain ⟨v, e1, q⟩ := S.slot i _ e
    obtain ⟨p, o, rfl, _, _, q⟩ := q.at ho
    rw [e1] at z; cases z
    rw [hDH] at q; cases q
  have S1 : Sl K F0 H0 F1 (upd H1 D (.lst [])) σ env := (S.step a1).updN hDF (Evl.fresh_back S.adv.h hDH) hne
  have hD0 : H0 D = none := Evl.fresh_back S.adv.h hDH
  refine ⟨fun i n H' => n = xs.length - i ∧ i ≤ xs.length ∧ ∃ F' acc vs rest, Sl K F0 H0 F' H' σ env ∧ Adv F H F' H' ∧ Ex F1 F' ∧ F' D = none ∧ H' D = some (.lst vs) ∧ Reps K F' (acc.map toD) vs ∧ compL2 it el (xs.drop i) = .ok rest ∧ zs = acc ++ rest,
    ⟨xs.length, rfl, Nat.zero_le _, F1, ([] : List γ), [], zs, S1, a1.trans (Adv.newO a1.in_ hD), Ex.refl _, hDF, upd_same, (show Reps K F1 [] [] from rfl), hr, rfl⟩, ?_⟩
  rintro i n H2 ⟨rfl, hle, F2, acc, vs, rest, S2, a2, x2, f2, h2, r2, q1, q2⟩
  by_cases hlt : i < xs.length
  · have e : xs.drop i = xs[i] :: xs.drop (i + 1) := List.drop_eq_getElem_cons hlt
    rw [e] at q1
    obtain ⟨ys, zz, r', b1, b2, b3, rfl⟩ := compL2_inv q1
    refine .inr ⟨js.go i H2 (x2.trans a2.in_) (by rw [hn]; exact hlt), fun H' => (i + 1 ≤ xs.length ∧ ∃ F' acc vs rest, Sl K F0 H0 F' H' σ env ∧ Adv F H F' H' ∧ Ex F1 F' ∧ F' D = none ∧ H' D = some (.lst vs) ∧ Reps K F' (acc.map toD) vs ∧ compL2 it el (xs.drop (i + 1)) = .ok rest ∧ zs = acc ++ rest),
      fun H' w => ⟨_, by omega, rfl, w⟩, fun v H3 hy => ?_⟩
    obtain ⟨F3, x, a3, ex, rx⟩ := js.yld i H2 v H3 F2 x2 a2.in_ (by rw [hn]; exact hlt) hy
    rw [List.getElem?_map, List.getElem?_eq_getElem hlt] at ex
    cases ex
    have S3 := S2.step a3
    refine hg xs[i] F0 H0 F3 H3 _ _ v _ (S3.wipe ws) rx fun σ' S' sl so => ⟨wipe_eq sl so, ?_⟩
    have f3 : F3 D = none := a3.out D f2 (by rw [h2]; simp)
    have h3 : H3 D = some (.lst vs) := a3.h _ _ h2
    show wi1 σ' H3 _
    refine hi1 xs[i] F0 H0 F3 H3 σ' _ S' ?_
    rw [b1]
    intro J1 F4 H4 a4 js1
    have f4 : F4 D = none := a4.out D f3 (by rw [h3]; simp)
    have h4 : H4 D = some (.lst vs) := a4.h _ _ h3
    have hn1 : (ys.map toD).length = ys.length := List.length_map ..
    have hneA : ∀ (j : Nat) (sk : Sk), (fe (xs[i]'hlt) (unset ws env))[j]? = some (some sk) → sk.own = true → σ'[j]? ≠ some (some (V.ref D)) := fun j sk e1 e2 z => by
      obtain ⟨e3, e4⟩ := ho (xs[i]'hlt) j sk e1 e2
      rw [so j e4, wipe_out e4] at z
      exact hne j sk e3 e2 z
    refine ⟨fun j n1 H' => n1 = ys.length - j ∧ j ≤ ys.length ∧ ∃ F' ac1 vs1 rs, Sl K F0 H0 F' H' σ env ∧ Sl K F0 H0 F' H' σ' (fe (xs[i]'hlt) (unset ws env)) ∧ Adv F H F' H' ∧ Ex F1 F' ∧ Ex F4 F' ∧ F' D = none ∧ H' D = some (.lst vs1) ∧ Reps K F' (ac1.map toD) vs1 ∧ mapL (el (xs[i]'hlt)) (ys.drop j) = .ok rs ∧ zs = ac1 ++ (rs ++ r'),
      ⟨ys.length, rfl, Nat.zero_le _, F4, acc, vs, zz, S3.step a4, S'.step a4, (a2.trans a3).trans a4, (x2.trans a3.f).trans a4.f, Ex.refl _, f4, h4, Reps.mono (a3.trans a4).f _ _ r2, b2, q2⟩, ?_⟩
    rintro j n1 H5 ⟨rfl, hle1, F5, ac1, vs1, rs, S5, S5', a5, x5, x5', f5, h5, r5, p1, p2⟩
    by_cases hlt1 : j < ys.length
    · have e1 : ys.drop j = ys[j] :: ys.drop (j + 1) := List.drop_eq_getElem_cons hlt1
      rw [e1] at p1
      obtain ⟨z, rs', c1, c2, rfl⟩ := mapL_inv p1
      refine .inr ⟨js1.go j H5 (x5'.trans a5.in_) (by rw [hn1]; exact hlt1), fun H' => (j + 1 ≤ ys.length ∧ ∃ F' ac1 vs1 rs, Sl K F0 H0 F' H' σ env ∧ Sl K F0 H0 F' H' σ' (fe (xs[i]'hlt) (unset ws env)) ∧ Adv F H F' H' ∧ Ex F1 F' ∧ Ex F4 F' ∧ F' D = none ∧ H' D = some (.lst vs1) ∧ Reps K F' (ac1.map toD) vs1 ∧ mapL (el (xs[i]'hlt)) (ys.drop (j + 1)) = .ok rs ∧ zs = ac1 ++ (rs ++ r')),
        fun H' w => ⟨_, by omega, rfl, w⟩, fun u H6 hy1 => ?_⟩
      obtain ⟨F6, y, a6, ey, ry⟩ := js1.yld j H5 u H6 F5 x5' a5.in_ (by rw [hn1]; exact hlt1) hy1
      rw [List.getElem?_map, List.getElem?_eq_getElem hlt1] at ey
      cases ey
      refine hg1 (xs[i]'hlt) ys[j] F0 H0 F6 H6 _ _ u _ ((S5'.step a6).wipe ws1) ry fun σ'' S'' sl1 so1 => ⟨wipe_eq sl1 so1, ?_⟩
      show te σ'' H6 _
      refine he (xs[i]'hlt) ys[j] F0 H0 F6 H6 σ'' _ S'' ?_
      rw [c1]
      intro w F7 H7 a7 r7
      have f6 : F6 D = none := a6.out D f5 (by rw [h5]; simp)
      have h6 : H6 D = some (.lst vs1) := a6.h _ _ h5
      have f7 : F7 D = none := a7.out D f6 (by rw [h6]; simp)
      have h7 : H7 D = some (.lst vs1) := a7.h _ _ h6
      have ad := (a5.trans a6).trans a7
      have len : ac1.length < 16777216 := by
        have := congrArg List.length p2
        rw [List.length_append, List.length_append, List.length_cons] at this
        omega
      refine ⟨vs1, h7, by rw [sizeLine_eq, ← r5.length, List.length_map]; omega, hlt1, F7, ac1 ++ [z], vs1 ++ [w], rs', ((S5.step a6).step a7).updN f7 hD0 hne, ((S5'.step a6).step a7).updN f7 hD0 hneA, ⟨ad.f, fun a u q => ?_, fun a u q => ?_, ad.out⟩,
        (x5.trans a6.f).trans a7.f, (x5'.trans a6.f).trans a7.f, f7, upd_same, ?_, c2, ?_⟩
      · rw [upd_ne (ne_of_none q hDH)]; exact ad.h a u q
      · rw [upd_ne (ne_of_none q f7)]; exact ad.in_ a u q
      · rw [List.map_append]
        exact Reps.append (Reps.mono (a6.trans a7).f _ _ r5) (Reps.one r7)
      · rw [p2, List.append_assoc]; rfl
    · have e1 : ys.drop j = [] := List.drop_of_length_le (by omega)
      rw [e1] at p1
      cases p1
      exact .inl ⟨js1.stop j H5 (x5'.trans a5.in_) (by rw [hn1]; omega), hlt, F5, ac1, vs1, r', S5, a5, x5, f5, h5, r5, b3, by rw [p2]; rfl⟩
  · have e : xs.drop i = [] := List.drop_of_length_le (by omega)
    rw [e] at q1
    cases q1
    rw [List.append_nil] at q2
    subst q2
    exact .inl ⟨js.stop i H2 (x2.trans a2.in_) (by rw [hn]; omega), k D vs F2 H2 a2 hDH f2 h2 r2⟩
end
/-- the second for of a comprehension walks a list, a tuple -/
theorem pi_listK {X : Cx} {K : PySem.W.Frag} {tg l : Expr} {tl : TE} (hK : X.K = K) (hl : PE X l tl) : PI X tg l (iList K tl) := by
  subst hK
  exact pi_list hl
theorem gx_weak {K : PySem.W.Frag} {g : TG} {x : D} {f : En → En} {ws0 ws : List Nat} (h : GX K g x f ws0) (hs : ∀ j ∈ ws0, j ∈ ws) : GX K g x f ws := fun F0 H0 F H σ env v T S r k =>
  h F0 H0 F H σ env v T S r fun σ' S' l o => k σ' S' l fun j hj => o j fun z => hj (hs j z)
end Mi
set_option maxHeartbeats 1000000
namespace Mi
open PySem PySem.Spec L2
open Evl (Ex)
/-! ### an owned list that is read while something flat is worked out -/
class Flat (α : Type) [ToD α] : Prop where
  ok : ∀ (x : α) (K : PySem.W.Frag) (F F' : Hp) (v : V), Rep K F (toD x) v → Rep K F' (toD x) v
instance : Flat Int := ⟨fun _ _ _ _ _ h => h⟩
instance : Flat Bool := ⟨fun _ _ _ _ _ h => h⟩
instance : Flat Str := ⟨fun _ _ _ _ _ h => h⟩
instance : Flat Unit := ⟨fun _ _ _ _ _ h => h⟩
section
variable {K : PySem.W.Frag} {W : WX} {env : En} {te : TE} {α : Type} [ToD α]
end
/-! ### wider tuples, lists of a known length -/
structure Lt2 (α : Type) where
  a : α
  b : α
structure Lt3 (α : Type) where
  a : α
  b : α
  c : α
structure Lt8 (α : Type) where
  a : α
  b : α
  c : α
  e : α
  f : α
  g : α
  h : α
  i : α
instance {α : Type} [ToD α] : ToD (Lt2 α) := ⟨fun x => .lst [ToD.d x.a, ToD.d x.b]⟩
instance {α : Type} [ToD α] : ToD (Lt3 α) := ⟨fun x => .lst [ToD.d x.a, ToD.d x.b, ToD.d x.c]⟩
instance {α : Type} [ToD α] : ToD (Lt8 α) := ⟨fun x => .lst [ToD.d x.a, ToD.d x.b, ToD.d x.c, ToD.d x.e, ToD.d x.f, ToD.d x.g, ToD.d x.h, ToD.d x.i]⟩
def lt2 {α : Type} : List α → Res (Lt2 α)
  | [a, b] => .ok ⟨a, b⟩
  | _ => .stuck
def lt3 {α : Type} : List α → Res (Lt3 α)
  | [a, b, c] => .ok ⟨a, b, c⟩
  | _ => .stuck
def lt8 {α : Type} : List α → Res (Lt8 α)
  | [a, b, c, e, f, g, h, i] => .ok ⟨a, b, c, e, f, g, h, i⟩
  | _ => .stuck
section
variable {α : Type} [ToD α]
end
/-! ### dicts with text keys that a def makes -/
structure Dc (α : Type) where
  kvs : List (Str × α)
instance {α : Type} [ToD α] : ToD (Dc α) := ⟨fun x => .dct (x.kvs.map (·.1)) (x.kvs.map fun p => toD p.2)⟩
def EvPr (K : PySem.W.Frag) (W : WX) (env : En) (trs : List (TE × TE)) (ks : List Str) {β : Type} [ToDs β] (m : Res β) : Prop :=
  ∀ F0 H0 F H σ (Q : List (V × V) → Hp → Prop), Sl K F0 H0 F H σ env → KA K W F H σ (fun vs H' => Q ((ks.map V.str).zip vs) H') m → tPairs trs σ H Q
section
variable {K : PySem.W.Frag} {W : WX} {env : En} {te : TE} {α : Type} [ToD α] {trs : List (TE × TE)} {ks : List Str}
/-- a dict of this kind, read -/
def cget {α : Type} (x : Dc α) (z : Str) : Res α := match x.kvs.lookup z with
  | some y => .ok y
  | none => .stuck
end
/-! ### s[i] of a text -/
noncomputable def sidx (x : Str) (i : Int) : Res Str := match atI x.cps.toList i with
  | some c => .need (x.length < 16777216) (.ok ⟨#[c]⟩)
  | none => .stuck
/-! ### x.insert(0, e) of an owned list -/
def rInsert : V → List V → Hp → VK → Prop := fun x vs H Q => ∃ (l : Addr) (xs : List V) (i : Int) (y : V), x = .ref l ∧ vs = [.int i, y] ∧ H l = some (.lst xs) ∧ xs.length < sizeLine ∧ 0 ≤ i ∧ i < 2 ^ 63 ∧
    Q .non (upd H l (.lst (xs.take i.toNat ++ [y] ++ xs.drop i.toNat)))
section
variable {K : PySem.W.Frag} {W : WX} {F0 H0 : Hp} {rt : VK} {PT : En → Prop} {τ β : Type} [ToD τ] [ToR τ] [ToD β] {KP : Res τ → Prop} {env : En} {te : TE} {Z : Ends}
end
end Mi
set_option maxHeartbeats 1000000
namespace Mi
open PySem PySem.Spec L2
open Evl (Ex)
/-! ### built-in functions that the module imports -/
def biB (K : PySem.W.Frag) (x : Str) (id : String) : Bool := He.eqO (PySem.W.nsIn K mainGlobals x) (some (some (.builtin id)))
def rSqrt : List V → Hp → VK → Prop := fun xs H Q => ∃ i : Int, xs = [.int i] ∧ 0 ≤ i ∧ i.toNat.log2 ≤ 4000 ∧ Q (.int ((Float64.isqrt i.toNat : Nat) : Int)) H
end Mi
set_option maxHeartbeats 1000000
namespace Mi
open PySem PySem.Spec L2
open Evl (Ex)
/-! ### range(i, j, c), c above 0 -/
def stepN (i j c : Int) : Nat := if i < j then ((j - i - 1) / c + 1).toNat else 0
def pyStep (i j c : Int) : List Int := (List.range (stepN i j c)).map fun (a : Nat) => i + (a : Int) * c
section
variable {K : PySem.W.Frag} {W : WX} {F : Hp} {env : En} {ta tb tc : TE}
end
end Mi
set_option maxHeartbeats 1000000
namespace Mi
open PySem PySem.Spec L2
open Evl (Ex)
/-! ### zip of a list and a tuple -/
def ItzM (K : PySem.W.Frag) (a b : Addr) (n1 n2 : Nat) : It :=
  ⟨fun k G => ∃ (us ws : List V) (u v : V), SqL K G a us ∧ SqT K G b ws ∧ us[k]? = some u ∧ ws[k]? = some v ∧ us.length = n1 ∧ ws.length = n2,
    fun k G r G' => ∃ p u v, r = .ref p ∧ G p = none ∧ G' = upd G p (.tup [u, v]) ∧ (∀ us, SqL K G a us → us[k]? = some u) ∧ ∀ ws, SqT K G b ws → ws[k]? = some v,
    fun k G => ∃ us ws : List V, SqL K G a us ∧ SqT K G b ws ∧ us.length = n1 ∧ ws.length = n2 ∧ (n1 ≤ k ∨ n2 ≤ k)⟩
/-- the cells of such a zip -/
abbrev cellsZ (n : Nat) : List Addr := [n + 4, n + 2, n + 3, n, n + 1]
/-- the heap behind zip(list, tuple) -/
def laidZ (g : Heap) (a b : Addr) : Heap :=
  let n := g.objs.size
  ((((g.push { cls := .type "list_iterator", data := .fields #[.ref a, .int 0 0] }).push { cls := .type "tuple_iterator", data := .fields #[.ref b, .int 0 0] }).push { cls := .type "tuple", data := .seq #[.ref n, .ref (n + 1)] }).push
    { cls := .type "tuple", data := .seq #[.none, .none] }).push { cls := .type "zip", data := .fields #[.none, .bool false, .bool false, .ref (n + 2), .ref (n + 3)] }
def iZipM (K : PySem.W.Frag) (ta : TA) : TI := fun σ H R => ta σ H fun vs G => ∃ a b us ws, vs = [V.ref a, V.ref b] ∧ SqL K G a us ∧ SqT K G b ws ∧ R (ItzM K a b us.length ws.length) G
section
variable {K : PySem.W.Frag} {W : WX} {F : Hp} {env : En} {α β : Type} [ToD α] [ToD β]
end
end Mi
set_option maxHeartbeats 1000000
namespace Mi
open PySem PySem.Spec L2
open Evl (Ex)
/-! ### defs that give a new list -/
structure Nw (α : Type) where
  xs : List α
instance {α : Type} [ToD α] : ToD (Nw α) := ⟨fun z => .lst (z.xs.map ToD.d)⟩
instance {α : Type} : ToR (Nw α) := ⟨fun _ _ v H0 _ _ => ∃ p, v = .ref p ∧ H0 p = none⟩
section
variable {K : PySem.W.Frag} {W : WX} {F0 H0 F H : Hp} {rt : VK} {PT : En → Prop} {env : En} {te : TE} {Z : Ends} {α : Type} [ToD α] {KP : Res (Nw α) → Prop}
theorem retW {σ : L2.St} {F' H' : Hp} {p : Addr} {vs : List V} {xs : List α} (L : Lk K W F0 H0 rt PT KP) (S : Sl K F0 H0 F H σ env) (a : Adv F H F' H') (h : KP (.ok (Nw.mk xs))) (h0 : H0 p = none) (hF : F' p = none) (hH : H' p = some (.lst vs)) (r : Reps K F' (xs.map toD) vs) : rt (.ref p) H' := by
  have b := S.adv.trans a
  refine L.ok (Nw.mk xs) h (.ref p) (upd F' p (.lst vs)) H' ⟨b.f.trans (Ex.new hF), b.h, fun c u q => ?_, fun c q1 q2 => ?_⟩ ?_ ⟨p, rfl, h0⟩
  · by_cases z : c = p
    · subst z; rw [upd_same] at q; cases q; exact hH
    · rw [upd_ne z] at q; exact b.in_ _ _ q
  · have z : c ≠ p := fun z => q2 (by rw [z]; exact h0)
    rw [upd_ne z]; exact b.out c q1 q2
  · exact ⟨p, vs, rfl, upd_same, Reps.mono (Ex.new hF) _ _ r⟩
/-- return of an owned list -/
theorem blk_retWv {i : Nat} {xs : List α} (L : Lk K W F0 H0 rt PT KP) (hx : env[i]? = some (some (.ow (xs.map toD)))) (hZ : Z.rt = rt := by rfl) : Blk K F0 H0 KP (tRet (tVar i) Z) env (.ok (Nw.mk xs)) := fun F H σ S h => by
  obtain ⟨v, e, p, vs, rfl, h0, hf, hp, hr⟩ := S.slot i _ hx
  refine ⟨_, e, ?_⟩
  rw [hZ]
  exact retW L S (Adv.refl S.ex) h h0 hf hp hr
def KW (K : PySem.W.Frag) (W : WX) (F H : Hp) (σ : L2.St) (Q : VK) : Res (Nw α) → Prop
  | .ok z => ∀ p F' H', Adv F H F' H' → Rep K F' (toD z) (.ref p) → H p = none → Q (.ref p) H'
  | .exc c => ∀ F' H', Adv F H F' H' → W (.ref (He.ga K c)) none σ H'
  | .stuck => False
def spW (K : PySem.W.Frag) {δ : Type} [ToDs δ] (f : δ → Res (Nw α)) : Sp := fun vs H Q E => ∃ F x, Ex F H ∧ Reps K F (ToDs.ds x) vs ∧ KW K (fun cls d _ H => E cls d H) F H [] Q (f x)
theorem ev_callW [Flat α] {δ : Type} [ToDs δ] {t : TA} {m : Res δ} {f : δ → Res (Nw α)} (ha : EvA K W env t m) : EvN K W env (tCallS (spW K f) (WE W) t) (m.bind fun y => (f y).bind fun z => .ok z.xs) := fun F0 H0 F H σ Q S k => by
  refine ha F0 H0 F H σ _ S ?_
  cases m with
  | ok y =>
    intro vs F1 H1 a1 r1
    refine ⟨F1, y, a1.in_, r1, ?_⟩
    have k : KN K W F H σ Q ((f y).bind fun z => .ok z.xs) := k
    revert k
    generalize f y = z
    intro k
    cases z with
    | ok z =>
      intro p F2 H2 a2 r2 hp
      obtain ⟨c, vs, ec, e2, e3⟩ := r2
      cases ec
      have flat : ∀ (xs : List α) (vs : List V), Reps K F2 (xs.map toD) vs → Reps K F1 (xs.map toD) vs := by
        intro xs
        induction xs with
        | nil => exact fun vs h => h
        | cons x xs ih =>
          rintro vs ⟨v, r, rfl, h1, h2⟩
          exact ⟨v, r, rfl, Flat.ok x K F2 F1 v h1, ih r h2⟩
      exact k p vs F1 H2 (a1.trans ⟨Ex.refl F1, a2.h, a2.f.trans a2.in_, fun _ h _ => h⟩) (Evl.fresh_back a1.h hp) (none_of_ex a1.in_ hp) (a2.in_ _ _ e2) (flat z.xs vs e3)
    | exc c => exact fun F2 H2 a2 => k F2 H2 (a1.trans a2)
    | stuck => exact k.elim
  | exc c => exact k
  | stuck => exact k.elim
end
section
variable {P : Program} {w : World} {K : PySem.W.Frag} {mg : Str → Option Value} {base : Heap} {x qual : Str} {params : Arguments} {body : List Stmt} {scope : Scope} {dvs : List V} {kws : List (Str × V)} {f : Addr} {fd : FuncData}
theorem fn_okW {N ps : List Str} {k : Nat} {β α : Type} [ToDs β] [ToD α] {fM : β → Res (Nw α)} (F : FunD K x qual params body scope dvs kws f fd) (S : FnScope N ps scope) (hl : ∀ y : β, (ToDs.ds y).length = ps.length)
    (hbody : ∀ (cdv : Value) (A : Around) (outer : List Env) (s : Shared) (H : Hp) (E : XK), Room k (A.deeper (PyProof.Rows.envOfC qual scope s.heap.objs.size f cdv)) →
      ∃ t, PSs (cxOf (L2.CX P w) P w K mg base N qual scope f cdv A outer s H E) body t ∧
        ∀ (y : β) (F0 H0 : Hp) (Q : VK) (KP : Res (Nw α) → Prop), Lk K (fun cls d _ H => E cls d H) F0 H0 Q (fun _ => True) KP → Blk K F0 H0 KP (t { nx := fun _ H' => Q .non H', rt := Q }) (enStart N (ToDs.ds y)) (fM y)) :
    FnOk P w K mg base (L2.CX P w) (k + 1) f fd ps (spW K fM) := by
  refine F.ok S (fun vs H Q E h => ?_) (fun cdv A outer s H vs Q E hr h => ?_)
  · obtain ⟨F, y, _, r, _⟩ := h
    rw [← r.length]; exact hl y
  · obtain ⟨t, h1, h2⟩ := hbody cdv A outer s H E hr
    refine ⟨t, h1, ?_⟩
    obtain ⟨F, y, e, r, q⟩ := h
    refine h2 y F H Q (fun r => KW K (fun cls d _ H => E cls d H) F H [] Q r) ⟨fun z h v F' H' a r fr => ?_, fun c F' H' σ env h _ S' => h F' H' S'.adv, fun z => z⟩ F H _ (sl_start e r) q
    obtain ⟨p, rfl, hp⟩ := fr
    exact h p F' H' a r hp
end
end Mi
set_option maxHeartbeats 1000000
namespace Mi
open PySem PySem.Spec L2
open Evl (Ex)
/-! ### texts: a walk over the signs, ord, len, +, *, join -/
def chars (x : Str) : List Str := x.cps.toList.map fun c => ⟨#[c]⟩
theorem chars_len (x : Str) : (chars x).length = x.cps.size := by simp [chars]
section
variable {K : PySem.W.Frag} {W : WX} {F : Hp} {env : En} {te to : TE}
theorem js_str (x : Str) : JS K F (Its x) ((chars x).map toD) := by
  have hn : ((chars x).map toD).length = x.cps.size := by rw [List.length_map, chars_len]
  refine ⟨fun i H e hi => ?_, fun i H e hi => ?_, fun i H v H' F1 e1 e2 hi hy => ?_⟩
  · rw [hn] at hi; exact hi
  · rw [hn] at hi; exact hi
  · rw [hn] at hi
    obtain ⟨rfl, c, hc, rfl⟩ := hy
    refine ⟨F1, .str ⟨#[c]⟩, Adv.refl e2, ?_, rfl⟩
    unfold chars
    rw [List.getElem?_map, List.getElem?_map, ← Array.getElem?_toList] at *
    rw [hc]; rfl
theorem ei_str {m : Res Str} (h : EvX K W env te m) : EvI K W env (iStr te) (m.bind fun x => .ok (chars x)) := fun F0 H0 F H σ R S k => by
  refine h F0 H0 F H σ _ S ?_
  cases m with
  | ok x =>
    intro v F1 H1 a r
    cases (show v = V.str x from r)
    exact ⟨x, rfl, k _ F1 H1 a (js_str x)⟩
  | exc c => exact k
  | stuck => exact k.elim
theorem cx_ord : CrX K (fun xs H Q => ∃ x, xs = [V.str x] ∧ x.length = 1 ∧ Q (.int (x.cps.getD 0 0 : Nat)) H) (fun (p : Str × Unit) => .need (p.1.length = 1) (.ok ((p.1.cps.getD 0 0 : Nat) : Int))) := fun F H x vs Q e r k => by
  obtain ⟨v, r1, rfl, h1, h2⟩ := r
  cases (show r1 = [] from h2)
  cases (show v = V.str x.1 from h1)
  dsimp only at k
  by_cases c : x.1.length = 1
  · rw [Res.need_pos c] at k
    exact ⟨x.1, rfl, c, k _ F H (Adv.refl e) rfl⟩
  · rw [Res.need_neg c] at k
    exact k.elim
def rLenT : List V → Hp → VK → Prop := fun xs H Q => ∃ y : Str, xs = [V.str y] ∧ y.length ≤ 16777216 ∧ Q (.int y.length) H
theorem cr_lenT {X : Cx} : CallR X (.builtin "len") rLenT := by
  intro pins s σ H xs us Q I r h
  obtain ⟨y, rfl, hz, q⟩ := h
  exact call_len pins s σ H _ us Q I r ⟨.str y, y.length, rfl, ⟨by rw [sizeLine_eq]; exact hz, rfl⟩, q⟩
theorem cx_lenS : CrX K rLenT (fun (p : Str × Unit) => .need (p.1.length ≤ 16777216) (.ok (p.1.length : Int))) := fun F H x vs Q e r k => by
  obtain ⟨v, r1, rfl, h1, h2⟩ := r
  cases (show r1 = [] from h2)
  cases (show v = V.str x.1 from h1)
  dsimp only at k
  by_cases c : x.1.length ≤ 16777216
  · rw [Res.need_pos c] at k
    exact ⟨x.1, rfl, c, k _ F H (Adv.refl e) rfl⟩
  · rw [Res.need_neg c] at k
    exact k.elim
def rAddT : R2 := fun x y H Q => ∃ i j, x = .str i ∧ y = .str j ∧ i.length + j.length ≤ sizeLine ∧ Q (.str (i ++ j)) H
def repS (x : Str) (n : Int) : Str := ⟨(List.replicate n.toNat x.cps).foldl (· ++ ·) #[]⟩
def RepT (x : Str) (k : Int) : Prop := -(2 ^ 63) ≤ k ∧ k < 2 ^ 63 ∧ x.length * k.toNat ≤ 16777216
theorem rep_size (c acc : Array Nat) : ∀ m : Nat, ((List.replicate m c).foldl (· ++ ·) acc).size = acc.size + c.size * m
  | 0 => rfl
  | m + 1 => by
    rw [List.replicate_succ, List.foldl_cons, rep_size c (acc ++ c) m, Array.size_append, Nat.mul_add, Nat.mul_one]; omega
def rRepT : R2 := fun x y H Q => ∃ i k, x = .str i ∧ y = .int k ∧ RepT i k ∧ Q (.str (repS i k)) H
theorem rep_one (x : Str) : repS x 1 = x := by
  cases x
  simp [repS]
theorem rep_neg (x : Str) {n : Int} (h : n < 1) : repS x n = Str.empty := by
  unfold repS
  rw [show n.toNat = 0 by omega]; rfl
theorem rep_nil (x : Str) (h : x.length = 0) (n : Int) : repS x n = x := by
  obtain ⟨c⟩ := x
  have e : c = #[] := Array.eq_empty_of_size_eq_zero h
  subst e
  unfold repS
  generalize n.toNat = m
  congr 1
  induction m with
  | zero => rfl
  | succ m ih => exact ih
theorem op_repT {X : Cx} : OpR X (binaryOp .Mult) rRepT := by
  intro pins s σ H x y v u Q I rx ry h
  obtain ⟨i, k, rfl, rfl, ⟨h1, h2, h3⟩, q⟩ := h
  obtain ⟨t, rfl⟩ := rx
  obtain ⟨t', rfl⟩ := ry
  have hf : (decide (k < -(2 ^ 63 : Int)) || decide (k ≥ 2 ^ 63)) = false := by
    rw [decide_eq_false (by omega), decide_eq_false (by omega)]; rfl
  refine PySem.P.mul_str hf (fun a _ => ?_) (fun _ _ => ?_) ?_
  · have e : ((i.length * k.toNat : Nat) : Int) = (i.length : Int) * k := by
      rw [Int.natCast_mul, Int.toNat_of_nonneg (by omega)]
    intro g
    have := (Int.le_ediv_iff_mul_le (a := (i.length : Int)) (b := 2 ^ 63 - 1) (show 0 < k by omega)).mpr (by omega)
    omega
  · show decide (i.length * k.toNat > sizeLine) = false
    rw [sizeLine_eq]
    exact decide_eq_false (by omega)
  · by_cases a : k < 1
    · rw [if_pos a]
      rw [rep_neg i a] at q
      exact ⟨by decide +kernel, .str _, H, I.tok _, ⟨_, rfl⟩, q⟩
    · rw [if_neg a]
      by_cases b : (k == 1 || i.length == 0) = true
      · rw [if_pos b]
        have e : repS i k = i := by
          rcases Bool.or_eq_true_iff.mp b with b | b
          · rw [eq_of_beq b]; exact rep_one i
          · exact rep_nil i (eq_of_beq b) k
        rw [e] at q
        exact ⟨.str _, H, I, ⟨_, rfl⟩, q⟩
      · rw [if_neg b]
        refine ⟨?_, .str _, H, I.tok _, ⟨_, rfl⟩, q⟩
        rw [sizeLine_eq]
        show ((List.replicate k.toNat i.cps).foldl (· ++ ·) #[]).size ≤ 16777216
        rw [rep_size]
        have : i.cps.size * k.toNat ≤ 16777216 := h3
        have z : (#[] : Array Nat).size = 0 := rfl
        omega
theorem opx_repT : OpX K rRepT (fun (x : Str) (n : Int) => .need (RepT x n) (.ok (repS x n))) := fun F H x y v u Q e h1 h2 k => by
  dsimp only at k
  by_cases c : RepT x y
  · rw [Res.need_pos c] at k
    exact ⟨x, y, h1, h2, c, k _ F H (Adv.refl e) rfl⟩
  · rw [Res.need_neg c] at k
    exact k.elim
def rJoin (K : PySem.W.Frag) : V → List V → Hp → VK → Prop := fun x xs H Q => ∃ a p, ∃ ys : List Str, x = .str a ∧ xs = [.ref p] ∧ (SqL K H p (ys.map V.str) ∨ SqT K H p (ys.map V.str)) ∧
  (ys.map (·.length)).sum + ys.length * a.length ≤ 16777216 ∧ Q (.str (Txt.join a ys)) H
theorem cr_listof {X : Cx} (h : X.K = K) : CallR X (.type "list") (fun xs H Q => ∃ p ys, xs = [V.ref p] ∧ (SqL K H p ys ∨ SqT K H p ys) ∧ ∀ l, H l = none → Q (.ref l) (upd H l (.lst ys))) := by
  subst h; exact call_list_of
end
end Mi
set_option maxHeartbeats 1000000
namespace Mi
open PySem PySem.Spec L2
/-- short words for slots -/
abbrev iM {α : Type} [ToD α] (x : α) : Option Sk := some (.im (toD x))
abbrev oW {α : Type} [ToD α] (xs : List α) : Option Sk := some (.ow (xs.map toD))
/-! ### a tuple as the default of a keyword -/
def kwA (p : Str × Option Str) (x : Str) (K : PySem.W.Frag) : Addr := match K.lookup (He.fAd K p) with
  | some ⟨_, _, .func fd, _⟩ => (match fd.kwdefaults with
    | .ref D => (match PySem.W.nsIn K D x with
      | some (some (.ref b)) => b
      | _ => 0)
    | _ => 0)
  | _ => 0
def tupAB (K : PySem.W.Frag) (a : Addr) (vs : List V) : Bool := match K.lookup a with
  | some ⟨.type c, _, .seq its _, _⟩ => decide (c = "tuple") && (decide (its.size ≤ sizeLine) && He.relAll vs its.toList)
  | _ => false
/-! ### list(x) of a list or a tuple of ints -/
def D.asSeq : D → Res (List Int)
  | .lst i => intsOf i
  | .tup i => intsOf i
  | _ => .stuck
section
variable {K : PySem.W.Frag} {W : WX} {env : En} {te : TE}
end
/-! ### for x in reversed(a list) -/
section
open Evl (Ex)
variable {K : PySem.W.Frag} {W : WX} {F : Hp} {env : En} {te : TE} {α : Type} [ToD α]
end
end Mi
set_option maxHeartbeats 1000000
namespace Mi
open PySem PySem.W PySem.Calls PyProof.Rows HandSHeadRun
/-! ### the top in segments: what a piece of it gives within so many steps -/
section
variable (tb : String → Option Builtin) (p : Program) (w : World) (n0 : Nat) (ann : Option Value)
def Gs {α : Type} (B : List Frame) (lv : List Value → List Value) (m : Sem α) (s : Shared) (c : Code) (q : Pos) (n : Nat) (a : α) (s' : Shared) (c' : Code) (q' : Pos) : Prop :=
  ∀ (K : α → Sem Fin) (H : Value → Sem Fin) (N : Nat) (r : Shared), topRun tb p w n0 ann N s' ⟨K a, c', q', B⟩ = some r → topRun tb p w n0 ann (n + N) s ⟨m.wrap K H id lv, c, q, B⟩ = some r
end
section
variable {tb : String → Option Builtin} {p : Program} {w : World} {n0 : Nat} {ann : Option Value} {B : List Frame} {lv : List Value → List Value} {α β : Type} {s s1 s2 : Shared} {c c1 c2 : Code} {q q1 q2 : Pos} {n k : Nat}
theorem Gs.pure {a : α} : Gs tb p w n0 ann B lv (Pure.pure a : Sem α) s c q 0 a s c q := fun K H N r h => by
  rw [Nat.zero_add]; exact h
theorem Gs.mono {m : Sem α} {a : α} (h : Gs tb p w n0 ann B lv m s c q n a s1 c1 q1) (le : n ≤ k) : Gs tb p w n0 ann B lv m s c q k a s1 c1 q1 := fun K H N r hr => by
  have := h K H (N + (k - n)) r (topRun_mono _ _ _ _ _ hr)
  rw [show n + (N + (k - n)) = k + N by omega] at this
  exact this
theorem Gs.bind {m : Sem α} {f : α → Sem β} {a : α} {b : β} (h1 : Gs tb p w n0 ann B lv m s c q n a s1 c1 q1) (h2 : Gs tb p w n0 ann B lv (f a) s1 c1 q1 k b s2 c2 q2) : Gs tb p w n0 ann B lv (m >>= f) s c q (n + k) b s2 c2 q2 := fun K H N r h => by
  rw [Sem.bind_eq_wrap', Sem.wrap_wrap, Nat.add_assoc]
  exact h1 _ _ _ _ (h2 K H N r h)
theorem Gs.keep {m : Sem α} {a : α} {vs : List Value} (h : Gs tb p w n0 ann B (fun l => lv (vs ++ l)) m s c q n a s1 c1 q1) : Gs tb p w n0 ann B lv (m.keep vs) s c q n a s1 c1 q1 := fun K H N r hr => by
  rw [Sem.keep_eq_wrap, Sem.wrap_wrap]
  exact h K H N r hr
theorem step1 {t t' : Thread} {N : Nat} {r : Shared} (h0 : through t = false) (h1 : stepOk n0 ann t = true) (h2 : step (denote tb) p w s t = .go s1 t') (h : topRun tb p w n0 ann N s1 t' = some r) : topRun tb p w n0 ann (1 + N) s t = some r := by
  rw [Nat.add_comm]
  unfold topRun
  rw [h0, h1, h2]
  exact h
theorem Gs.rule {tag : String} : Gs tb p w n0 ann B lv (rule tag) s c q 1 () s c q := fun K H N r h =>
  step1 (by cases B <;> rfl) rfl (by obtain ⟨a, b, d, e, f⟩ := s; rfl) h
theorem Gs.standAt {pos : Pos} : Gs tb p w n0 ann B lv (standAt pos) s c q 1 () s c pos := fun K H N r h =>
  step1 (by cases B <;> rfl) rfl (by obtain ⟨a, b, d, e, f⟩ := s; rfl) h
theorem Gs.loadPart {a : Addr} {part : Option Value} {o : Obj} (ho : s.heap.get? a = some o) : Gs tb p w n0 ann B lv (loadPart a part) s c q 1 o s c q := fun K H N r h =>
  step1 (t' := ⟨K o, c, q, B⟩) (by cases B <;> rfl) rfl (by obtain ⟨a, b, d, e, f⟩ := s; simp only [PySem.loadPart, Sem.wrap, step, ho]; try rfl) h
theorem Gs.alloc {o : Obj} : Gs tb p w n0 ann B lv (alloc o) s c q 1 s.heap.objs.size { s with heap := s.heap.push o } c q := fun K H N r h =>
  step1 (by cases B <;> rfl) rfl (by obtain ⟨a, b, d, e, f⟩ := s; rfl) h
theorem Gs.point : Gs tb p w n0 ann B lv point s c q 1 () s c q := fun K H N r h =>
  step1 (by cases B <;> rfl) rfl (by obtain ⟨a, b, d, e, f⟩ := s; rfl) h
theorem Gs.forIn {x : List α} {f : α → β → Sem (ForInStep β)} {b : β} (h : ∀ y ∈ x, Gs tb p w n0 ann B lv (f y b) s c q n (.yield b) s c q) : Gs tb p w n0 ann B lv (forIn x b f) s c q (n * x.length) b s c q := by
  induction x with
  | nil => rw [List.forIn_nil]; exact Gs.pure
  | cons y r ih =>
    rw [List.forIn_cons, List.length_cons, Nat.mul_succ, Nat.add_comm]
    exact Gs.bind (h y List.mem_cons_self) (ih fun z hz => h z (List.mem_cons_of_mem _ hz))
/-- a piece that the kernel runs -/
theorem Gs.seg {m : Sem α} {res : α → Flow} {f : Flow} {a0 : α} (hB : splitAtGen B = none) (hf : ∀ a, res a = f → a = a0) (h : segRun tb p w n0 ann B.length n s ⟨m.wrap (fun a => .pure (.done (res a))) deadEnd id lv, c, q, B⟩ = some (f, s1, c1, q1)) :
    Gs tb p w n0 ann B lv m s c q n a0 s1 c1 q1 := fun K H N r hr => by
  obtain ⟨a, ha, k⟩ := seg_top (res := res) (K' := K) (H' := H) (gd := id) (lv := lv) hB n s ⟨m.wrap (fun a => .pure (.done (res a))) deadEnd id lv, c, q, B⟩ ⟨m.wrap K H id lv, c, q, B⟩ f s1 c1 q1 ⟨rfl, rfl, .inl ⟨rfl, rfl, m, rfl, rfl⟩⟩ h
  cases hf a ha
  exact k N r hr
end
/-! ### pieces that change nothing -/
def isRet : List Frame → Bool
  | .ret .. :: _ => true
  | _ => false
/-- a step that leaves the state as it is, and the place at the lowest level -/
def roOk (b : Nat) (t : Thread) : Bool := match t.cur with
  | .rule .. | .load .. | .loadIfAlive .. | .point .. | .ask .. | .stack .. | .handled .. | .call .. => true
  | .at .. => !(t.stack.length == b)
  | .pure _ | .raise _ => isRet t.stack && !(t.stack.length == b)
  | _ => false
inductive RoAt (B : List Frame) (c : Code) (q : Pos) : Thread → Prop
  | base (cur : Sem Fin) : RoAt B c q ⟨cur, c, q, B⟩
  | over (cur : Sem Fin) (code : Code) (pos : Pos) (fs : List Frame) (k : Result → Sem Fin) (h : Option Value) (g : Bool) (l kept : List Value) : RoAt B c q ⟨cur, code, pos, fs ++ .ret k h g l c q kept :: B⟩
theorem RoAt.deep {B : List Frame} {c : Code} {q : Pos} {t : Thread} (h : RoAt B c q t) (e : (t.stack.length == B.length) = true) : ∃ cur, t = ⟨cur, c, q, B⟩ := by
  cases h with
  | base cur => exact ⟨cur, rfl⟩
  | over cur code pos fs k h g l kept =>
    exfalso
    have := beq_iff_eq.mp e
    simp at this
    omega
section
variable {den : Code → Sem Fin} {p : Program} {w : World} {B : List Frame} {c : Code} {q : Pos}
theorem roAt_next {s s' : Shared} {t t' : Thread} (A : RoAt B c q t) (h : roOk B.length t = true) (hs : step den p w s t = .go s' t') : s' = s ∧ RoAt B c q t' := by
  obtain ⟨h1, h2, h3, h4, h5⟩ := s
  cases A with
  | base cur =>
    cases cur with
    | rule | point | ask | handled | stack => simp only [step, Step.go.injEq] at hs; obtain ⟨rfl, rfl⟩ := hs; exact ⟨rfl, .base _⟩
    | load a z k =>
      cases e : h1.get? a with
      | none => simp only [step, e] at hs; cases hs
      | some o => simp only [step, e, Step.go.injEq] at hs; obtain ⟨rfl, rfl⟩ := hs; exact ⟨rfl, .base _⟩
    | loadIfAlive a k => simp only [step, Step.go.injEq] at hs; obtain ⟨rfl, rfl⟩ := hs; exact ⟨rfl, .base _⟩
    | call cc hh gg ll kk =>
      simp only [step, Step.go.injEq] at hs; obtain ⟨rfl, rfl⟩ := hs
      exact ⟨rfl, .over _ _ _ [] _ _ _ _ _⟩
    | «at» z k => simp [roOk] at h
    | pure f => simp [roOk] at h
    | raise f => simp [roOk] at h
    | _ => cases h
  | over cur code pos fs k hd g l kept =>
    cases cur with
    | rule | point | ask | handled | stack | «at» => simp only [step, Step.go.injEq] at hs; obtain ⟨rfl, rfl⟩ := hs; exact ⟨rfl, .over ..⟩
    | load a z k =>
      cases e : h1.get? a with
      | none => simp only [step, e] at hs; cases hs
      | some o => simp only [step, e, Step.go.injEq] at hs; obtain ⟨rfl, rfl⟩ := hs; exact ⟨rfl, .over ..⟩
    | loadIfAlive a k => simp only [step, Step.go.injEq] at hs; obtain ⟨rfl, rfl⟩ := hs; exact ⟨rfl, .over ..⟩
    | call cc hh gg ll kk =>
      simp only [step, Step.go.injEq] at hs; obtain ⟨rfl, rfl⟩ := hs
      exact ⟨rfl, .over _ _ _ (_ :: fs) _ _ _ _ _⟩
    | pure f =>
      cases f with
      | done f =>
        cases fs with
        | nil => simp only [step, List.nil_append, Step.go.injEq] at hs; obtain ⟨rfl, rfl⟩ := hs; exact ⟨rfl, .base _⟩
        | cons F fs =>
          cases F with
          | ret => simp only [step, List.cons_append, Step.go.injEq] at hs; obtain ⟨rfl, rfl⟩ := hs; exact ⟨rfl, .over ..⟩
          | gen => simp [roOk, isRet] at h
      | again cc =>
        cases fs with
        | nil => rw [List.nil_append, PySem.W.step_again] at hs; simp only [Step.go.injEq] at hs; obtain ⟨rfl, rfl⟩ := hs; exact ⟨rfl, .over _ _ _ [] _ _ _ _ _⟩
        | cons F fs =>
          cases F with
          | ret => rw [List.cons_append, PySem.W.step_again] at hs; simp only [Step.go.injEq] at hs; obtain ⟨rfl, rfl⟩ := hs; exact ⟨rfl, .over _ _ _ (_ :: fs) _ _ _ _ _⟩
          | gen => simp [roOk, isRet] at h
    | raise f =>
      cases fs with
      | nil => simp only [step, List.nil_append, Step.go.injEq] at hs; obtain ⟨rfl, rfl⟩ := hs; exact ⟨rfl, .base _⟩
      | cons F fs =>
        cases F with
        | ret => simp only [step, List.cons_append, Step.go.injEq] at hs; obtain ⟨rfl, rfl⟩ := hs; exact ⟨rfl, .over ..⟩
        | gen => simp [roOk, isRet] at h
    | _ => cases h
end
section
variable (st : SharedT → Thread → Option (SharedT × Thread)) (n0 : Nat) (ann : Option Value)
def roRun (b : Nat) : Nat → SharedT → Thread → Option Flow
  | 0, _, _ => none
  | m + 1, s, t => match endAt b t with
    | some f => some f
    | none => match roOk b t && stepOk n0 ann t with
      | false => none
      | true => match st s t with
        | some (_, t') => roRun b m s t'
        | none => none
/-- so many steps, to the piece's end -/
def sgRun (b : Nat) : Nat → SharedT → Thread → Option (Flow × SharedT × Code × Pos)
  | 0, _, _ => none
  | m + 1, s, t => match endAt b t with
    | some f => some (f, s, t.code, t.pos)
    | none => match stepOk n0 ann t with
      | false => none
      | true => match st s t with
        | some (s', t') => frS s' fun s' => sgRun b m s' t'
        | none => none
end
section
variable {tb : String → Option Builtin} {p : Program} {w : World} {n0 : Nat} {ann : Option Value} {B : List Frame} {c : Code} {q : Pos}
theorem roRun_ok : ∀ {m : Nat} {s : SharedT} {t : Thread} {f : Flow}, RoAt B c q t → roRun (stepT (denote tb) p w) n0 ann B.length m s t = some f → segRun tb p w n0 ann B.length m s.abs t = some (f, s.abs, c, q)
  | 0, _, _, _, _, h => by cases h
  | m + 1, s, t, f, A, h => by
    unfold roRun at h
    unfold segRun
    cases he : endAt B.length t with
    | some x =>
      rw [he] at h
      cases h
      have e : (t.stack.length == B.length) = true := by
        unfold endAt at he
        split at he
        · assumption
        · cases he
      obtain ⟨cur, rfl⟩ := A.deep e
      rfl
    | none =>
      rw [he] at h
      cases hk : (roOk B.length t && stepOk n0 ann t) with
      | false => rw [hk] at h; cases h
      | true =>
        rw [hk] at h
        obtain ⟨k1, k2⟩ := Bool.and_eq_true_iff.mp hk
        rw [k2]
        cases hs : stepT (denote tb) p w s t with
        | none => rw [hs] at h; cases h
        | some r =>
          obtain ⟨s2, t2⟩ := r
          rw [hs] at h
          have e := stepT_spec hs
          obtain ⟨e1, A2⟩ := roAt_next A k1 e
          rw [e]
          show segRun tb p w n0 ann B.length m s2.abs t2 = _
          rw [e1]
          exact roRun_ok A2 h
theorem sgRun_ok : ∀ {m : Nat} {s s' : SharedT} {t : Thread} {f : Flow} {c' : Code} {q' : Pos} {b : Nat}, sgRun (stepT (denote tb) p w) n0 ann b m s t = some (f, s', c', q') → segRun tb p w n0 ann b m s.abs t = some (f, s'.abs, c', q')
  | 0, _, _, _, _, _, _, _, h => by cases h
  | m + 1, s, s', t, f, c', q', b, h => by
    unfold sgRun at h
    unfold segRun
    cases he : endAt b t with
    | some x => rw [he] at h; cases h; rfl
    | none =>
      rw [he] at h
      cases hk : stepOk n0 ann t with
      | false => rw [hk] at h; cases h
      | true =>
        rw [hk] at h
        cases hs : stepT (denote tb) p w s t with
        | none => rw [hs] at h; cases h
        | some r =>
          obtain ⟨s2, t2⟩ := r
          rw [hs] at h
          have h3 : (frS s2 fun s' => sgRun (stepT (denote tb) p w) n0 ann b m s' t2) = some (f, s', c', q') := h
          rw [frS_eq] at h3
          rw [stepT_spec hs]
          exact sgRun_ok h3
variable {α : Type} {lv : List Value → List Value}
theorem Gs.ro {m : Sem α} {res : α → Flow} {f : Flow} {a0 : α} {n : Nat} {s : SharedT} (hB : splitAtGen B = none) (hf : ∀ a, res a = f → a = a0)
    (h : roRun (stepT (denote tb) p w) n0 ann B.length n s ⟨m.wrap (fun a => .pure (.done (res a))) deadEnd id lv, c, q, B⟩ = some f) : Gs tb p w n0 ann B lv m s.abs c q n a0 s.abs c q :=
  Gs.seg hB hf (roRun_ok (.base _) h)
theorem Gs.sg {m : Sem α} {res : α → Flow} {f : Flow} {a0 : α} {n : Nat} {s s' : SharedT} {c' : Code} {q' : Pos} (hB : splitAtGen B = none) (hf : ∀ a, res a = f → a = a0)
    (h : sgRun (stepT (denote tb) p w) n0 ann B.length n s ⟨m.wrap (fun a => .pure (.done (res a))) deadEnd id lv, c, q, B⟩ = some (f, s', c', q')) : Gs tb p w n0 ann B lv m s.abs c q n a0 s'.abs c' q' :=
  Gs.seg hB hf (sgRun_ok h)
end
end Mi
set_option maxHeartbeats 1000000
namespace Mi
open PySem PySem.W PySem.Calls PyProof.Rows HandSHeadRun
/-! ### storing under keys that are tuples, whatever the hashes -/
section
variable {tb : String → Option Builtin} {p : Program} {w : World} {n0 : Nat} {ann : Option Value} {B : List Frame} {lv : List Value → List Value} {s s' : Shared} {c : Code} {q : Pos} {n F : Nat}
theorem Gs.hold1 {α : Type} {m : Sem α} {x : α} {a : Addr} {c' : Code} {q' : Pos} (h : Gs tb p w n0 ann B (fun l => lv ([.ref a] ++ l)) m s c q n x s' c' q') : Gs tb p w n0 ann B lv (holding [.ref a] m) s c q n x s' c' q' := Gs.keep (vs := [.ref a]) h
theorem Gs.hold2 {α : Type} {m : Sem α} {x : α} {a b : Addr} {c' : Code} {q' : Pos} (h : Gs tb p w n0 ann B (fun l => lv ([.ref a, .ref b] ++ l)) m s c q n x s' c' q') : Gs tb p w n0 ann B lv (holding [.ref a, .ref b] m) s c q n x s' c' q' := Gs.keep (vs := [.ref a, .ref b]) h
theorem Gs.entries {d : Addr} {o : Obj} {es : Array DictEntry} {ep : Nat} {part : Option Value} (ho : s.heap.get? d = some o) (hd : o.data = .dict es ep) : Gs tb p w n0 ann B lv (dictEntries d part) s c q 1 es s c q := by
  unfold dictEntries
  refine Gs.bind (n := 1) (k := 0) (Gs.loadPart ho) ?_
  rw [hd]
  exact Gs.pure
theorem Gs.epoch {d : Addr} {o : Obj} {es : Array DictEntry} {ep : Nat} {part : Option Value} (ho : s.heap.get? d = some o) (hd : o.data = .dict es ep) : Gs tb p w n0 ann B lv (dictEpoch d part) s c q 1 ep s c q := by
  unfold dictEpoch
  refine Gs.bind (n := 1) (k := 0) (Gs.loadPart ho) ?_
  rw [hd]
  exact Gs.pure
/-- what is known of the keys that stand, for a new key at a: quiet, and another -/
structure NewKey (tb : String → Option Builtin) (p : Program) (w : World) (n0 : Nat) (ann : Option Value) (B : List Frame) (lv : List Value → List Value) (s : Shared) (c : Code) (q : Pos) (F : Nat) (ks : List Addr) (a : Addr) : Prop where
  qa : Gs tb p w n0 ann B lv (eqIsQuiet 8 (.ref a)) s c q F true s c q
  qk : ∀ k ∈ ks, Gs tb p w n0 ann B lv (eqIsQuiet 8 (.ref k)) s c q F true s c q
  ne : ∀ k ∈ ks, k ≠ a ∧ Gs tb p w n0 ann B lv (eqBool (.ref k) (.ref a)) s c q F false s c q
theorem Gs.tell {ks : List Addr} {a : Addr} {stored : List Value} (N : NewKey tb p w n0 ann B lv s c q F ks a) (hs : ∀ v ∈ stored, ∃ k ∈ ks, v = .ref k) : Gs tb p w n0 ann B lv (tableMayTell (.ref a) stored) s c q (F + F * stored.length) false s c q := by
  unfold tableMayTell
  split
  · exact (Gs.pure).mono (Nat.zero_le _)
  · refine Gs.bind N.qa ?_
    simp only [Bool.not_true, Bool.false_eq_true, if_false]
    refine Gs.bind (n := F * stored.length) (k := 0) (Gs.forIn (b := (none, ())) fun v hv => ?_) Gs.pure
    obtain ⟨k, hk, rfl⟩ := hs v hv
    refine Gs.bind (n := F) (k := 0) (N.qk k hk) ?_
    simp only [Bool.not_true, Bool.false_eq_true, if_false]
    exact Gs.pure
theorem Gs.find {d a : Addr} {o : Obj} {es : Array DictEntry} {ep : Nat} {ks : List Addr} {h : Int} (ho : s.heap.get? d = some o) (hd : o.data = .dict es ep) (he : ∀ e ∈ es, ∃ k ∈ ks, e.key = .ref k)
    (N : NewKey tb p w n0 ann B (fun l => lv ([.ref a] ++ l)) s c q F ks a) : Gs tb p w n0 ann B lv (dictFind d (.ref a) h) s c q (1 + ((F + F * es.size) + (3 + F) * es.size)) none s c q := by
  have hany : ¬ (es.any fun e => e.key == Value.ref a && e.hash != h) = true := by
    rw [Array.any_eq_true']
    rintro ⟨e, hin, hc⟩
    obtain ⟨k, hk, e1⟩ := he e hin
    have e2 := (Bool.and_eq_true_iff.mp hc).1
    rw [e1] at e2
    have e3 := eq_of_beq e2
    injection e3 with e3
    exact (N.ne k hk).1 e3
  have hst : ∀ v ∈ (placesWithHash es.size (fun i => es[i]?.map (·.hash)) h).filterMap (fun i => es[i]?.map (·.key)), ∃ k ∈ ks, v = .ref k := by
    intro v hv
    obtain ⟨i, _, hi⟩ := List.mem_filterMap.mp hv
    cases hei : es[i]? with
    | none => rw [hei] at hi; cases hi
    | some e =>
      rw [hei] at hi
      obtain rfl : e.key = v := by simpa using hi
      exact he e (Array.mem_of_getElem? hei)
  have hl1 : (placesWithHash es.size (fun i => es[i]?.map (·.hash)) h).length ≤ es.size := by
    unfold placesWithHash
    exact Nat.le_trans (List.length_filter_le _ _) (by simp)
  have hl2 : ((placesWithHash es.size (fun i => es[i]?.map (·.hash)) h).filterMap (fun i => es[i]?.map (·.key))).length ≤ es.size := Nat.le_trans (List.length_filterMap_le _ _) hl1
  unfold dictFind
  refine Gs.hold1 ?_
  refine Gs.bind (Gs.entries ho hd) ?_
  dsimp only
  rw [if_neg (show ¬ ((Value.ref a :: (placesWithHash es.size (fun i => es[i]?.map (·.hash)) h).filterMap (fun i => es[i]?.map (·.key))).all carriedByValue) = true by simp [carriedByValue])]
  rw [if_neg hany]
  have body : ∀ i ∈ placesWithHash es.size (fun i => es[i]?.map (·.hash)) h, ∀ e, es[i]? = some e → ∃ k ∈ ks, e.key = .ref k := fun i _ e q => he e (Array.mem_of_getElem? q)
  by_cases hone : (((placesWithHash es.size (fun i => es[i]?.map (·.hash)) h).filterMap (fun i => es[i]?.map (·.key))) == [Value.ref a]) = true
  all_goals (first | rw [if_pos hone] | rw [if_neg hone])
  all_goals (first | refine Gs.bind (n := F + F * es.size) (k := (3 + F) * es.size) ((Gs.pure (a := false)).mono (Nat.zero_le _)) ?_ | refine Gs.bind (n := F + F * es.size) (k := (3 + F) * es.size) ((Gs.tell N hst).mono (Nat.add_le_add_left (Nat.mul_le_mul_left _ hl2) _)) ?_)
  all_goals
    rw [if_neg (by simp)]
    refine Gs.bind (n := (3 + F) * es.size) (k := 0) ((Gs.forIn (n := 3 + F) (b := (none, none)) fun i hi => ?_).mono (Nat.mul_le_mul_left _ hl1)) Gs.pure
    cases hei : es[i]? with
    | none => exact (Gs.pure).mono (Nat.zero_le _)
    | some e =>
      obtain ⟨k, hk, e1⟩ := body i hi e hei
      dsimp only
      rw [e1]
      split
      · rw [show 3 + F = 1 + (F + (1 + 1)) by omega]
        refine Gs.bind (Gs.epoch ho hd) (Gs.bind (N.ne k hk).2 (Gs.bind (Gs.epoch ho hd) ?_))
        rw [if_neg (by simp), if_neg (by simp)]
        refine Gs.bind (n := 1) (k := 0) Gs.rule ?_
        rw [if_neg (by simp)]
        exact Gs.pure
      · exact (Gs.pure).mono (Nat.zero_le _)
/-- what a value's hash is taken from: some text of a call -/
abbrev refuseH (v : Value) : Sem Value := do rule "hash.unhashable"; raiseError "TypeError" s!"unhashable type: '{← typeNameOf v}'"
abbrev callHash (a : Addr) : Sem (Option Value) := callSpecialIfBoundUnlessNone? (.ref a) "__hash__" (refuseH (.ref a))
theorem Gs.hash {a : Addr} {H : Int} {t : Tok} {s1 : Shared} {c1 : Code} {q1 : Pos} (h1 : Gs tb p w n0 ann B lv (cRoomFor "hash" [.ref a]) s c q F () s c q) (h2 : Gs tb p w n0 ann B lv (specialOf (.ref a) "__hash__") s c q F (some (.builtin "tuple.__hash__")) s c q)
    (h3 : Gs tb p w n0 ann B lv (callHash a) s c q F (some (.int H t)) s1 c1 q1) : Gs tb p w n0 ann B lv (pyHash (.ref a)) s c q (F + (F + (F + (F + 1)))) (reduceHash H) s1 c1 q1 := by
  unfold pyHash
  unfold pyHashByItsType
  refine Gs.bind h1 ?_
  refine Gs.bind h2 ?_
  rw [if_neg (by rw [show ((some (Value.builtin "tuple.__hash__") : Option Value) == some Value.none) = false from rfl]; exact Bool.false_ne_true)]
  refine Gs.bind h2 ?_
  rw [if_neg (by simp)]
  refine Gs.bind h3 ?_
  dsimp only
  unfold pyHashByItsType.reduced reduceHash
  split
  · exact (Gs.pure).mono (Nat.zero_le _)
  · exact Gs.bind (n := 1) (k := 0) Gs.rule Gs.pure
theorem Gs.set {d a b : Addr} {o : Obj} {es : Array DictEntry} {ep : Nat} {ks : List Addr} {H : Int} {t : Tok} {s1 s2 : Shared} {c1 c2 : Code} {q1 q2 : Pos} (h1 : Gs tb p w n0 ann B (fun l => lv ([.ref a, .ref b] ++ l)) (cRoomFor "hash" [.ref a]) s c q F () s c q)
    (h2 : Gs tb p w n0 ann B (fun l => lv ([.ref a, .ref b] ++ l)) (specialOf (.ref a) "__hash__") s c q F (some (.builtin "tuple.__hash__")) s c q) (h3 : Gs tb p w n0 ann B (fun l => lv ([.ref a, .ref b] ++ l)) (callHash a) s c q F (some (.int H t)) s1 c1 q1)
    (ho : s1.heap.get? d = some o) (hd : o.data = .dict es ep) (he : ∀ e ∈ es, ∃ k ∈ ks, e.key = .ref k)
    (N : NewKey tb p w n0 ann B (fun l => lv ([.ref a, .ref b] ++ ([.ref a, .ref b] ++ ([.ref a] ++ l)))) s1 c1 q1 F ks a)
    (up : Gs tb p w n0 ann B (fun l => lv ([.ref a, .ref b] ++ ([.ref a, .ref b] ++ l))) (updateDictKeys d (·.push ⟨reduceHash H, .ref a, .ref b⟩) (keyPart (.ref a))) s1 c1 q1 F () s2 c2 q2) :
    Gs tb p w n0 ann B lv (dictSet d (.ref a) (.ref b)) s c q (F + (F + (F + (F + 1))) + ((1 + ((F + F * es.size) + (3 + F) * es.size)) + (1 + F))) () s2 c2 q2 := by
  unfold dictSet
  refine Gs.hold2 ?_
  refine Gs.bind (Gs.hash h1 h2 h3) ?_
  unfold dictSetHashed
  refine Gs.hold2 ?_
  refine Gs.bind (Gs.find ho hd he N) ?_
  dsimp only
  exact Gs.bind Gs.rule up
end
end Mi
set_option maxHeartbeats 1000000
namespace Mi
open PySem PySem.W PySem.Calls PyProof.Rows HandSHeadRun
/-! ### the same, worked out -/
abbrev fuelT : Nat := 20000
def resU : Unit → Flow := fun _ => .next
def resB : Bool → Flow := fun b => match b with
  | true => .brk
  | false => .cont
def resN : Option Value → Flow := fun o => match o with
  | some (.builtin id) => (match decide (id = "tuple.__hash__") with
    | true => .brk
    | false => .cont)
  | _ => .next
def resV : Option Value → Flow := fun o => match o with
  | some v => .ret v
  | none => .next
def resA : Addr → Flow := fun a => .ret (.ref a)
def resO : Option (List Str) → Flow := fun o => match o with
  | none => .next
  | some _ => .brk
/-- the pairs' addresses -/
def asRefs : List (Value × Value) → List (Nat × Nat) → Bool
  | [], [] => true
  | (.ref a, .ref b) :: r, (x, y) :: t => Nat.beq a x && (Nat.beq b y && asRefs r t)
  | _, _ => false
abbrev refP (x : Nat × Nat) : Value × Value := (.ref x.1, .ref x.2)
def resP (kvs : List (Nat × Nat)) : List (Value × Value) → Flow := fun l => resB (asRefs l kvs)
theorem resA_ok {a d : Addr} (h : resA a = .ret (.ref d)) : a = d := by cases h; rfl
section
variable (st : SharedT → Thread → Option (SharedT × Thread)) (n0 : Nat) (ann : Option Value) (B : List Frame)
def roB {α : Type} (m : Sem α) (res : α → Flow) (lv : List Value → List Value) (s : SharedT) (c : Code) (q : Pos) : Option Flow := roRun st n0 ann B.length fuelT s ⟨m.wrap (fun a => .pure (.done (res a))) deadEnd id lv, c, q, B⟩
def sgB {α : Type} (m : Sem α) (res : α → Flow) (lv : List Value → List Value) (s : SharedT) (c : Code) (q : Pos) : Option (Flow × SharedT × Code × Pos) := sgRun st n0 ann B.length fuelT s ⟨m.wrap (fun a => .pure (.done (res a))) deadEnd id lv, c, q, B⟩
def isBrk : Option Flow → Bool
  | some .brk => true
  | _ => false
def isCont : Option Flow → Bool
  | some .cont => true
  | _ => false
def isNext : Option Flow → Bool
  | some .next => true
  | _ => false
def newB (lv : List Value → List Value) (s : SharedT) (c : Code) (q : Pos) (ks : List Addr) (a : Addr) : Bool :=
  isBrk (roB st n0 ann B (eqIsQuiet 8 (.ref a)) resB lv s c q) && ks.all fun k => isBrk (roB st n0 ann B (eqIsQuiet 8 (.ref k)) resB lv s c q) && (!(Nat.beq k a) && isCont (roB st n0 ann B (eqBool (.ref k) (.ref a)) resB lv s c q))
def keyB (ks : List Addr) (e : DictEntry) : Bool := match e.key with
  | .ref k => ks.any fun x => Nat.beq k x
  | _ => false
def dictB (ks : List Addr) (o : Option Obj) : Bool := match o with
  | some ⟨_, _, .dict es _, _⟩ => es.toList.all (keyB ks) && Nat.ble es.size 16
  | _ => false
def setB (d : Addr) (lv : List Value → List Value) (a b : Addr) (ks : List Addr) (s : SharedT) (c : Code) (q : Pos) : Option (SharedT × Code × Pos) :=
  match isNext (roB st n0 ann B (cRoomFor "hash" [.ref a]) resU (fun l => lv ([.ref a, .ref b] ++ l)) s c q) && isBrk (roB st n0 ann B (specialOf (.ref a) "__hash__") resN (fun l => lv ([.ref a, .ref b] ++ l)) s c q) with
  | false => none
  | true => match sgB st n0 ann B (callHash a) resV (fun l => lv ([.ref a, .ref b] ++ l)) s c q with
    | some (.ret (.int H _), s1, c1, q1) => (match newB st n0 ann B (fun l => lv ([.ref a, .ref b] ++ ([.ref a, .ref b] ++ ([.ref a] ++ l)))) s1 c1 q1 ks a && dictB ks (getT s1 d) with
      | true => (match sgB st n0 ann B (updateDictKeys d (·.push ⟨reduceHash H, .ref a, .ref b⟩) (keyPart (.ref a))) resU (fun l => lv ([.ref a, .ref b] ++ ([.ref a, .ref b] ++ l))) s1 c1 q1 with
        | some (.next, s2, c2, q2) => some (s2, c2, q2)
        | _ => none)
      | false => none)
    | _ => none
def storeB (d : Addr) (lv : List Value → List Value) : List (Nat × Nat) → List Addr → SharedT → Code → Pos → Option (SharedT × Code × Pos)
  | [], _, s, c, q => some (s, c, q)
  | x :: r, ks, s, c, q => match setB st n0 ann B d lv x.1 x.2 ks s c q with
    | some (s1, c1, q1) => storeB d lv r (x.1 :: ks) s1 c1 q1
    | none => none
end
def nSet : Nat := fuelT + (fuelT + (fuelT + (fuelT + 1))) + ((1 + ((fuelT + fuelT * 16) + (3 + fuelT) * 16)) + (1 + fuelT))
section
variable {p : Program} {w : World} {n0 : Nat} {ann : Option Value} {B : List Frame}
abbrev GsT {α : Type} (p : Program) (w : World) (n0 : Nat) (ann : Option Value) (B : List Frame) (lv : List Value → List Value) (m : Sem α) (s : SharedT) (c : Code) (q : Pos) (n : Nat) (a : α) (s' : SharedT) (c' : Code) (q' : Pos) : Prop := Gs treeTable p w n0 ann B lv m s.abs c q n a s'.abs c' q'
theorem sgB_ok {α : Type} {m : Sem α} {res : α → Flow} {lv : List Value → List Value} {s s' : SharedT} {c c' : Code} {q q' : Pos} {f : Flow} {a0 : α} (hB : splitAtGen B = none) (hf : ∀ a, res a = f → a = a0) (h : sgB (stepT (denote treeTable) p w) n0 ann B m res lv s c q = some (f, s', c', q')) :
    GsT p w n0 ann B lv m s c q fuelT a0 s' c' q' := Gs.sg hB hf h
end
end Mi
set_option maxHeartbeats 1000000
namespace Mi
open PySem PySem.W PySem.Calls PyProof.Rows HandSHeadRun
/-! ### the statement -/
def pairsE (env : Env) (pos : Pos) : List Expr → List Expr → List (Sem Value × Sem Value)
  | k :: ks, v :: vs => (eval k env, do let x ← eval v env; standAt pos; pure x) :: pairsE env pos ks vs
  | _, _ => []
structure TurnD where
  pre : List Stmt
  tg : List Expr
  ks : List Expr
  vs : List Expr
  dpos : Pos
  pos : Pos
  post : List Stmt
  kvs : List (Nat × Nat)
def TurnD.stmt (T : TurnD) : Stmt := .Assign T.tg (.Dict (T.ks.map some) T.vs T.dpos) T.pos
abbrev newD : Obj := { cls := .type "dict", data := .dict #[] }
section
variable (st : SharedT → Thread → Option (SharedT × Thread)) (n0 : Nat) (ann : Option Value) (B : List Frame)
def lvD (d : Addr) (kvs : List (Nat × Nat)) : List Value → List Value := fun l => ([.ref d] : List Value) ++ (((kvs.map refP).flatMap fun x => [x.1, x.2]).filter Value.isRef ++ l)
def dispB (T : TurnD) (env : Env) (s : SharedT) (c : Code) (q : Pos) : Option (Addr × SharedT × Code × Pos) :=
  match sgB st n0 ann B (alloc newD) resA id s c T.dpos with
  | some (.ret (.ref d), s1, c1, q1) => (match sgB st n0 ann B (evalPairs (pairsE env T.dpos T.ks T.vs)) (resP T.kvs) (fun l => ([.ref d] : List Value) ++ l) s1 c1 q1 with
    | some (.brk, s2, c2, q2) => (match storeB st n0 ann B d (lvD d T.kvs) T.kvs [] s2 c2 q2 with
      | some (s3, c3, q3) => some (d, s3, c3, q3)
      | none => none)
    | _ => none)
  | _ => none
def assB (T : TurnD) (env : Env) (s : SharedT) (c : Code) (q : Pos) : Option (SharedT × Code × Pos) :=
  match sgB st n0 ann B (swapsWithSole T.tg (.Dict (T.ks.map some) T.vs T.dpos) T.pos.line env) resB id s c T.pos with
  | some (.cont, s1, c1, q1) => (match dispB st n0 ann B T env s1 c1 q1 with
    | some (d, s2, c2, q2) => (match sgB st n0 ann B (swappedStores T.tg (.Dict (T.ks.map some) T.vs T.dpos) env) resO id s2 c2 q2 with
      | some (.next, s3, c3, q3) => (match sgB st n0 ann B (assignStores env (.ref d) none ((assignEach T.tg env).map (·.2))) id id s3 c3 q3 with
        | some (.next, s4, c4, q4) => some (s4, c4, q4)
        | _ => none)
      | _ => none)
    | none => none)
  | _ => none
end
def nDisp (k : Nat) : Nat := 1 + (fuelT + (fuelT + nSet * k))
def nAss (k : Nat) : Nat := 1 + (fuelT + (nDisp k + (fuelT + fuelT)))
section
variable {p : Program} {w : World} {n0 : Nat} {ann : Option Value} {B : List Frame}
theorem Gs.hold {tb : String → Option Builtin} {lv : List Value → List Value} {α : Type} {m : Sem α} {x : α} {vs : List Value} {s s' : Shared} {c c' : Code} {q q' : Pos} {n : Nat} (h : Gs tb p w n0 ann B (fun l => lv (vs.filter Value.isRef ++ l)) m s c q n x s' c' q') : Gs tb p w n0 ann B lv (holding vs m) s c q n x s' c' q' := by
  rw [holding_eq_keep]
  exact Gs.keep h
end
end Mi
set_option maxHeartbeats 1000000
namespace Mi
open PySem PySem.W PySem.Calls PyProof.Rows HandSHeadRun
/-! ### the top with such a statement in it -/
def envT (p : Program) (code : Value) (fr : Addr) : Env := { scope := p.main.scope, locals := mainNs, globals := mainNs, cells := [], code := code, frame := some fr }
def frT1 (c : Code) (q : Pos) : List Frame := [.ret topAfter none false [] c q []]
section
variable (st : SharedT → Thread → Option (SharedT × Thread)) (n0 : Nat) (ann : Option Value)
def bodyB (p : Program) (T : TurnD) (M : Nat) (env : Env) (B : List Frame) (s : SharedT) (q : Pos) : Option SharedT :=
  match sgB st n0 ann B (blockStart (behindTheImports p) env) resU id s (.body (behindTheImports p) env) q with
  | some (.next, s1, c1, q1) => (match sgRun st n0 ann B.length M s1 ⟨(execs T.pre env).wrap (fun f => .pure (.done (id f))) deadEnd id id, c1, q1, B⟩ with
    | some (.next, s2, c2, q2) => (match assB st n0 ann B T env s2 c2 q2 with
      | some (s3, c3, q3) => goF st n0 ann M s3 ⟨(execs T.post env).wrap doneF (leaveH env) id id, c3, q3, B⟩
      | none => none)
    | _ => none)
  | _ => none
def topB (p : Program) (T : TurnD) (M : Nat) (s : SharedT) : Option SharedT :=
  match sgB st n0 ann [] (moduleCode p.main) (fun v => .ret v) id s (.builtin "claim.caller" {}) default with
  | some (.ret code, s1, c1, q1) => (match sgB st n0 ann [] (newBodyFrame code mainNs mainNs) resA id s1 c1 q1 with
    | some (.ret (.ref fr), s2, c2, q2) => bodyB st n0 ann p T M (envT p code fr) (frT1 c2 q2) s2 q2
    | _ => none)
  | _ => none
end
section
variable {p : Program} {w : World} {n0 : Nat} {ann : Option Value}
def nTop (k M : Nat) : Nat := fuelT + (fuelT + (1 + (fuelT + (M + (nAss k + M)))))
end
end Mi
set_option maxHeartbeats 1000000
namespace Mi
open PySem PySem.W PySem.Calls PyProof.Rows HandSHeadRun
/-! ### the imports, the fences, and such a top -/
def wholeT (st : Program → SharedT → Thread → Option (SharedT × Thread)) (fence : Program → Shared → Option Shared) (N M : Nat) (p : Program) (T : TurnD) : Option (Shared × SharedT) :=
  (impF (st (opening p)) N (startT (opening p)) (start (opening p)).2).bind fun i => (fence p i.abs).bind fun s0 =>
    cond (s0.heap.isNs mainGlobals && s0.gens.size == 0) ((treeOf s0).bind fun x => frS x fun x => (topB (st p) x.n (s0.heap.nsMap mainGlobals "__annotations__") p T M x).map fun s1 => (s0, s1)) none
noncomputable abbrev runT (w : World) (N M : Nat) (p : Program) (T : TurnD) : Option (Shared × SharedT) := wholeT (fun p => stepQ (denQ tabQ) p w) fenceQ N M p T
noncomputable abbrev seeT (r : OpenRow) (q : Program) (loose : List PySem.Str) :=
  fun (x : Shared × SharedT) => (looksF r.prog x.1.heap x.2.abs, seenQ q loose (importedModules r.prog.main.body) (fun s => xlAt q [] s && recOk r.toRowW.records s) x.2.abs)
/-- the whole run's equation at a world -/
structure RunEqT (r : OpenRow) (q : Program) (H : Hook) (ob : SharedT → H.α) (N M : Nat) (T : TurnD) (loose : List PySem.Str) (w : World) : Prop where
  see : (runT w N M r.prog T).map (seeT r q loose) = some (true, openGood q loose)
  ob : (runT w N M r.prog T).map (fun x => ob x.2) = some (H.val w)
end Mi
set_option maxHeartbeats 1000000
namespace Mi
open PySem PySem.W PySem.Calls PyProof.Rows
/-! ### the statement, taken out of the program -/
def turnAt (b : List Stmt) (i : Nat) (kvs : List (Nat × Nat)) : TurnD := match b[i]? with
  | some (.Assign tg (.Dict ks vs dpos) pos) => ⟨b.take i, tg, ks.filterMap id, vs, dpos, pos, b.drop (i + 1), kvs⟩
  | _ => ⟨[], [], [], [], default, default, [], []⟩
def turnOf (p : Program) (i : Nat) (kvs : List (Nat × Nat)) : TurnD := turnAt (behindTheImports p) i kvs
end Mi
set_option maxHeartbeats 1000000
namespace Mi
open PySem PySem.W PySem.Calls PyProof.Rows HandSHeadRun
/-! ### the top in pieces, from one written state to the next -/
section
variable (p : Program) (w : World) (n0 : Nat) (ann : Option Value) (env : Env) (B : List Frame)
/-- what follows the statements R -/
def RunP (R : List Stmt) (s : SharedT) (c : Code) (q : Pos) (k : Nat) (s' : SharedT) : Prop :=
  topRun treeTable p w n0 ann k s.abs ⟨(execs R env).wrap doneF (leaveH env) id id, c, q, B⟩ = some s'.abs
end
section
variable {p : Program} {w : World} {n0 : Nat} {ann : Option Value} {env : Env} {B : List Frame} {s s1 s' : SharedT} {c c1 : Code} {q q1 : Pos} {M k : Nat}
noncomputable abbrev stQ (p : Program) (w : World) : SharedT → Thread → Option (SharedT × Thread) := stepQ (denQ tabQ) p w
theorem stQ_eq (p : Program) (w : World) : stepT (denote treeTable) p w = stQ p w := by rw [stepQ_eq, denQ_eq, tabQ_eq]
theorem runP_nil (h : goF (stQ p w) n0 ann M s ⟨(execs [] env).wrap doneF (leaveH env) id id, c, q, B⟩ = some s') : RunP p w n0 ann env B [] s c q M s' := by
  rw [← stQ_eq] at h
  exact goF_ok h
theorem runP_app {A R : List Stmt} (hB : splitAtGen B = none) (h : sgRun (stQ p w) n0 ann B.length M s ⟨(execs A env).wrap (fun f => .pure (.done (id f))) deadEnd id id, c, q, B⟩ = some (.next, s1, c1, q1)) (hr : RunP p w n0 ann env B R s1 c1 q1 k s') : RunP p w n0 ann env B (A ++ R) s c q (M + k) s' := by
  rw [← stQ_eq] at h
  unfold RunP
  rw [execs_app_wrap]
  exact (Gs.sg (a0 := Flow.next) hB (fun _ e => e) h : GsT ..) _ _ _ _ hr
end
/-- an object, its epoch worked out -/
def nrmO (o : Obj) : Obj := match o with
  | ⟨c, d, .dict es n, s⟩ => frNat n fun n => ⟨c, d, .dict es n, s⟩
  | o => o
theorem nrmO_eq (o : Obj) : nrmO o = o := by
  unfold nrmO
  split
  · rw [frNat_eq]
  · rfl
theorem nrmL_eq (l : List Obj) : l.map nrmO = l := by
  rw [show nrmO = id from funext nrmO_eq, List.map_id]
/-- the imports and the fences: what is there then -/
def openL (st : Program → SharedT → Thread → Option (SharedT × Thread)) (fence : Program → Shared → Option Shared) (N : Nat) (p : Program) : Option (List Obj × Life × Array GenState × Drawn × Nat × OsState) :=
  (impF (st (opening p)) N (startT (opening p)) (start (opening p)).2).bind fun i => (fence p i.abs).map fun s0 => (s0.heap.objs.toList.map nrmO, s0.heap.life, s0.gens, s0.drawn, s0.toks, s0.os)
/-- the module's code, its frame, the block's start -/
def startB (st : SharedT → Thread → Option (SharedT × Thread)) (n0 : Nat) (ann : Option Value) (p : Program) (x : SharedT) : Option (SharedT × Value × Addr × Code × Pos × Code × Pos) :=
  match sgB st n0 ann [] (moduleCode p.main) (fun v => .ret v) id x (.builtin "claim.caller" {}) default with
  | some (.ret code, s1, c1, q1) => (match sgB st n0 ann [] (newBodyFrame code mainNs mainNs) resA id s1 c1 q1 with
    | some (.ret (.ref fr), s2, c2, q2) => (match sgB st n0 ann (frT1 c2 q2) (blockStart (behindTheImports p) (envT p code fr)) resU id s2 (.body (behindTheImports p) (envT p code fr)) q2 with
      | some (.next, s3, c3, q3) => some (s3, code, fr, c2, q2, c3, q3)
      | _ => none)
    | _ => none)
  | _ => none
noncomputable abbrev openQ (w : World) (N : Nat) (p : Program) := openL (fun p => stQ p w) fenceQ N p
section
variable {p : Program} {w : World} {N k n0 : Nat} {x s3 s' : SharedT} {ann : Option Value} {code : Value} {fr : Addr} {c2 c3 : Code} {q2 q3 : Pos}
theorem openQ_eq (w : World) (N : Nat) (p : Program) : openL (fun q => stepT (denote treeTable) q w) fenceModules? N p = openQ w N p := by
  unfold openQ stQ
  rw [stepQ_eq, denQ_eq, tabQ_eq, fenceQ_eq]
theorem openQ_ok {l : List Obj} (h : openQ w N p = some (l, x.life, x.gens, x.drawn, x.toks, x.os)) (hx : x.abs.heap.objs.toList = l) : fencedOpening treeTable p w N = some x.abs := by
  rw [← openQ_eq] at h
  unfold openL at h
  obtain ⟨i, h1, h⟩ := Option.bind_eq_some_iff.mp h
  obtain ⟨z, h2, h⟩ := Option.map_eq_some_iff.mp h
  have a := impF_ok h1
  rw [startT_eq] at a
  simp only [Prod.mk.injEq] at h
  obtain ⟨e1, e2, e3, e4, e5, e6⟩ := h
  rw [nrmL_eq] at e1
  have e : z = x.abs := by
    obtain ⟨⟨zo, zl⟩, zg, zd, zt, zs⟩ := z
    obtain ⟨t, n, l1, g1, d1, t1, o1⟩ := x
    dsimp only at e1 e2 e3 e4 e5 e6
    subst e2 e3 e4 e5 e6
    have : zo = (absHeap t n zl).objs := Array.ext' (by rw [e1]; exact hx.symm)
    subst this
    rfl
  unfold fencedOpening
  rw [a, ← e]
  exact h2
theorem startB_ok (h : startB (stQ p w) n0 ann p x = some (s3, code, fr, c2, q2, c3, q3)) (hr : RunP p w n0 ann (envT p code fr) (frT1 c2 q2) (behindTheImports p) s3 c3 q3 k s') :
    topRun treeTable p w n0 ann (fuelT + (fuelT + (1 + (fuelT + k)))) x.abs (topStub p) = some s'.abs := by
  rw [← stQ_eq] at h
  unfold startB at h
  split at h
  · rename_i code' s1 c1 q1 e1
    split at h
    · rename_i fr' s2 c2' q2' e2
      split at h
      · rename_i s3' c3' q3' e3
        simp only [Option.some.injEq, Prod.mk.injEq] at h
        obtain ⟨rfl, rfl, rfl, rfl, rfl, rfl, rfl⟩ := h
        have hB : splitAtGen (frT1 c2' q2') = none := rfl
        have e : topRun treeTable p w n0 ann (fuelT + k) s2.abs ⟨denote treeTable (.body (behindTheImports p) (envT p code' fr')), .body (behindTheImports p) (envT p code' fr'), q2', frT1 c2' q2'⟩ = some s'.abs := by
          rw [body_wrap]
          exact (sgB_ok (a0 := ()) hB (fun _ _ => rfl) e3 : GsT ..) _ _ _ _ hr
        unfold topStub
        rw [Sem.bind_eq_wrap']
        refine (sgB_ok (a0 := code') rfl (fun a e => by cases e; rfl) e1 : GsT ..) _ _ _ _ ?_
        rw [Sem.bind_eq_wrap']
        refine (sgB_ok (a0 := fr') rfl (fun _ => resA_ok) e2 : GsT ..) _ _ _ _ ?_
        exact step1 rfl rfl rfl e
      · cases h
    · cases h
  · cases h
end
/-- the whole run, in written states -/
structure RunW (p : Program) (w : World) (N k : Nat) (x s' : SharedT) : Prop where
  o : fencedOpening treeTable p w N = some x.abs
  g : (x.abs.heap.isNs mainGlobals && x.abs.gens.size == 0) = true
  t : topRun treeTable p w x.abs.heap.objs.size (x.abs.heap.nsMap mainGlobals "__annotations__") k x.abs (topStub p) = some s'.abs
theorem runW_of {p : Program} {w : World} {N k n0 : Nat} {x s3 s' : SharedT} {ann : Option Value} {code : Value} {fr : Addr} {c2 c3 : Code} {q2 q3 : Pos} {l : List Obj} (ho : openQ w N p = some (l, x.life, x.gens, x.drawn, x.toks, x.os)) (hx : x.abs.heap.objs.toList = l)
    (hg : (x.abs.heap.isNs mainGlobals && x.abs.gens.size == 0) = true) (hn : x.abs.heap.objs.size = n0) (ha : x.abs.heap.nsMap mainGlobals "__annotations__" = ann)
    (h : startB (stQ p w) n0 ann p x = some (s3, code, fr, c2, q2, c3, q3)) (hr : RunP p w n0 ann (envT p code fr) (frT1 c2 q2) (behindTheImports p) s3 c3 q3 k s') :
    RunW p w N (fuelT + (fuelT + (1 + (fuelT + k)))) x s' := by
  subst hn ha
  exact ⟨openQ_ok ho hx, hg, startB_ok h hr⟩
theorem left_pieces {p q : Program} {loose : List PySem.Str} {Xt : Shared → Bool} {α : Type} {Yf : Shared → α} {Ya : World → α} {N k : Nat} {x s' : World → SharedT} (hN : Nat.ble k N = true) (run : ∀ w, RunW p w N k (x w) (s' w))
    (see : ∀ w : World, (looksF p (x w).abs.heap (s' w).abs, openSeen q loose (importedModules p.main.body) Xt true (s' w).abs, Yf (s' w).abs) = (true, openGood q loose, Ya w)) : LeftO p q loose Xt Yf Ya N true := fun w => by
  obtain ⟨o, g, t⟩ := run w
  obtain ⟨v1, v⟩ := Prod.mk.inj (see w)
  have t' := topRun_mono (N - k) _ _ _ _ t
  rw [show k + (N - k) = N by have := Nat.le_of_ble_eq_true hN; omega] at t'
  have l : topFrom treeTable p w N (x w).abs = some (s' w).abs := by
    unfold topFrom
    rw [g]
    dsimp only
    rw [t', Option.bind_some]
    have v2 : (staticsOk (importedModules p.main.body) (x w).abs.heap (s' w).abs.heap && namesBound p (s' w).abs.heap && gensDone (s' w).abs && laidKept (x w).abs.heap (s' w).abs.heap) = true := v1
    rw [v2]
  show ((fencedOpening treeTable p w N).bind (topFrom treeTable p w N)).map _ = _
  rw [o, Option.bind_some, l]
  exact congrArg some v
theorem head_pieces {r : OpenRow} {q : Program} {H : Hook} {ob : SharedT → H.α} {N k : Nat} {x s' : World → SharedT} {loose : List PySem.Str} {d : DefRec} {kwd : List (PySem.Str × PySem.Expr)} (ho : ∀ s : SharedT, ob s = H.obs s.abs)
    (hN : Nat.ble k N = true) (run : ∀ w, RunW r.prog w N k (x w) (s' w))
    (h1 : ∀ w, looksF r.prog (x w).abs.heap (s' w).abs = true) (h2 : ∀ w, seenQ q loose (importedModules r.prog.main.body) (fun s => xlAt q [] s && recOk r.toRowW.records s) (s' w).abs = openGood q loose) (h3 : ∀ w, ob (s' w) = H.val w)
    (hdef : defOf q r.name = some (d, kwd)) (hp : r.prog.theDef r.name = some (d.params, d.body, d.scope)) (hk : kwWritten? d.params.kwonlyargs d.params.kw_defaults = some kwd) (hwr : (!r.writes || r.records.isEmpty) = true) (k1 : r.wellSaid = true)
    (ok : (chainsOk q && opensWell r.prog && (frees r.toRowW && r.within.isEmpty)) = true) (bare : r.prog.bare) (hw : r.toRowW.promised) (call : WalkO q loose (XL q []) H.says r.toRowW d kwd fun f vs => PySem.call f vs) : r.Holds := by
  have left : LeftO r.prog q loose (fun s => xlAt q [] s && recOk r.toRowW.records s) H.obs H.val N true := by
    refine left_pieces hN run fun w => ?_
    have e3 := h3 w
    rw [ho] at e3
    rw [h1 w, seenQ_eq, h2 w, e3]
  refine holds_open (XP := XL q []) (YP := H.says) left H.of H.keeps ?_ XL.keeps hdef hp hk ?_ hwr k1 ok bare hw call
  · exact fun s z => xl_of s (Bool.and_eq_true_iff.mp z).1
  · exact fun s z => recFacts_of (Bool.and_eq_true_iff.mp z).2
/-! ### words for written objects -/
abbrev vS (x : String) (t : Nat) : Value := .str (.ofString x) t
abbrev vI (i : Int) (t : Nat) : Value := .int i t
abbrev vR (a : Nat) : Value := .ref a
abbrev vB (b : String) : Value := .builtin b
abbrev vT (b : String) : Value := .type b
abbrev vN : Value := .none
def dE (w : World) (x : String) (t : Nat) (v : Value) : DictEntry := ⟨PyData.keyHash w.params (.ofString x), .str (.ofString x) t, v⟩
def oD (es : List DictEntry) (n : Nat) : Obj := ⟨.type "dict", none, .dict es.toArray n, #[]⟩
def oT (vs : List Value) : Obj := ⟨.type "tuple", none, .seq vs.toArray 0, #[]⟩
def oL (vs : List Value) (n : Nat) : Obj := ⟨.type "list", none, .seq vs.toArray n, #[]⟩
def oF (c : Value) (vs : List Value) : Obj := ⟨c, none, .fields vs.toArray, #[]⟩
def oP (c : Value) (sl : List (Option Value)) : Obj := ⟨c, none, .plain, sl.toArray⟩
def oC (c : Value) (d : Option Nat) (name : String) (bases mro : List Value) (ns : Nat) (qual : String) (sl : List (Option Value)) : Obj := ⟨c, d, .cls { name := .ofString name, bases := bases, mro := mro, ns := ns, qualname := .ofString qual }, sl.toArray⟩
def oU (c : Value) (name qual : String) (st : Stmt) (globals : Nat) (closure : List (PySem.Str × Nat)) (dfl kwd pm : Value) (ann : Option Nat) (code ct : Value) (bi : Nat) (sl : List (Option Value)) : Obj :=
  ⟨c, none, .func ⟨.ofString name, .ofString qual, L2.defArgs st, .stmts (L2.defBody st), L2.defScope st, globals, closure, dfl, kwd, .none, pm, ann, code, ct, bi⟩, sl.toArray⟩
/-- the tree of a list of objects -/
def trF : Nat → List Obj → BT
  | 0, _ => .nil
  | _ + 1, [] => .nil
  | n + 1, o :: r => .node o (trF n (alt true r)) (trF n (alt false r))
where alt : Bool → List Obj → List Obj
  | _, [] => []
  | true, x :: r => x :: alt false r
  | false, _ :: r => alt true r
end Mi
set_option maxHeartbeats 1000000
namespace Mi
open PySem PySem.Spec L2
open Evl (Ex)
/-! ### an f-string as a value -/
section
variable {K : PySem.W.Frag} {W : WX} {F H : Hp} {σ : L2.St} {env : En} {α β γ : Type} [ToD α] [ToD β] [ToD γ] {te to : TE}
def EvG (K : PySem.W.Frag) (W : WX) (env : En) (ts : List TE) (N : Nat) (m : Res Str) : Prop :=
  ∀ F0 H0 F H σ acc (Q : Str → Hp → Prop), Sl K F0 H0 F H σ env → acc.length + N ≤ sizeLine → KE K W F H σ (fun v H' => ∀ out, v = V.str out → Q (acc ++ out) H') m → tJs ts acc σ H Q
end
/-! ### a call without arguments -/
section
variable {X : Cx} {CX : CXT} {k : Nat} {f : Addr} {fd : FuncData} {ps : List Str} {sp : Sp} {E : L2.St → XK} {x : Str} {p pos : Pos}
end
/-! ### is, is not of a bool or None and a bool -/
def rIsOB : R2 := fun x y H Q => ∃ b : Bool, y = .bl b ∧ ((x = .non ∧ Q (.bl false) H) ∨ ∃ a : Bool, x = .bl a ∧ Q (.bl (decide (a = b))) H)
def rNotOB : R2 := fun x y H Q => ∃ b : Bool, y = .bl b ∧ ((x = .non ∧ Q (.bl true) H) ∨ ∃ a : Bool, x = .bl a ∧ Q (.bl (!decide (a = b))) H)
section
variable {X : Cx}
end
/-! ### two fors in a comprehension, the second with an if -/
def compL2T {α β γ : Type} (it : α → Res (List β)) (tst : α → β → Res Bool) (el : α → β → Res γ) : List α → Res (List γ)
  | [] => .ok []
  | x :: xs => (it x).bind fun ys => (compL (tst x) (el x) ys).bind fun zs => (compL2T it tst el xs).bind fun r => .ok (zs ++ r)
section
variable {K : PySem.W.Frag} {W : WX} {env : En} {te : TE} {tt : TT} {α β γ : Type} [ToD α] [ToD β] [ToD γ]
end
end Mi
set_option maxHeartbeats 1000000
namespace Mi
open PySem PySem.Spec L2
open Evl (Ex)
/-! ### objects that methods change -/
/-- what a method of such an object gives: a value, and the object as it then is -/
structure MoR (α S : Type) where
  x : α
  s : S
/-- the same, with the object's place -/
def Mo (p : Addr) (α S : Type) := MoR α S
/-- an object at its place, not frozen -/
def At (K : PySem.W.Frag) (F H : Hp) (p : Addr) : D → Prop
  | .obj c ks ds => ∃ dx vs, F p = none ∧ H p = some (.ins (He.ga K c) dx (ks.zip vs)) ∧ ks.length = vs.length ∧ Reps K F ds vs
  | _ => False
instance {p : Addr} {α S : Type} [ToD α] : ToD (Mo p α S) := ⟨fun z => ToD.d (MoR.x z)⟩
instance {p : Addr} {α S : Type} [ToD S] : ToR (Mo p α S) := ⟨fun K z v H0 F H => At K F H p (toD (MoR.s z))⟩
def Res.bind2 {α S β : Type} (m : Res (MoR α S)) (g : α → S → Res β) : Res β := m.bind fun z => g z.x z.s
section
variable {K : PySem.W.Frag} {F0 H0 F H F' H' : Hp} {σ : L2.St} {env : En}
theorem At.adv {p : Addr} {d : D} (a : Adv F H F' H') (h : At K F H p d) : At K F' H' p d := by
  cases d <;> try exact h
  obtain ⟨dx, vs, h1, h2, h3, h4⟩ := h
  exact ⟨dx, vs, a.out p h1 (by rw [h2]; simp), a.h _ _ h2, h3, Reps.mono a.f _ _ h4⟩
/-- the heap without an owned object -/
theorem SkOk.hide {sk : Sk} {v : V} {p : Addr} (hn : sk.own = true → v ≠ .ref p) (h : SkOk K H0 F H sk v) : SkOk K H0 F (hide H p) sk v := by
  cases sk with
  | im e => exact h
  | raw w => exact h
  | ow xs =>
    obtain ⟨q, vs, e1, e2, e3, e4, e5⟩ := h
    have hne : q ≠ p := fun z => hn rfl (by rw [e1, z])
    exact ⟨q, vs, e1, e2, e3, by rw [hide_ne hne]; exact e4, e5⟩
  | oi pp c ks ds =>
    obtain ⟨q, dx, vs, e1, e2, e3, e4, e5, e6, e7⟩ := h
    have hne : q ≠ p := fun z => hn rfl (by rw [e1, z])
    exact ⟨q, dx, vs, e1, e2, e3, by rw [hide_ne hne]; exact e4, e5, e6, e7⟩
theorem set_none_get {i j : Nat} {sk : Sk} (h : (env.set i none)[j]? = some (some sk)) : j ≠ i ∧ env[j]? = some (some sk) := by
  rcases set_get h with ⟨_, z⟩ | ⟨z, q⟩
  · cases z
  · exact ⟨fun w => z w.symm, q⟩
theorem Sl.hide (S : Sl K F0 H0 F H σ env) {i : Nat} {sk : Sk} {p : Addr} (hi : env[i]? = some (some sk)) (ho : sk.own = true) (hs : σ[i]? = some (some (.ref p))) (h0 : H0 p = none) (hf : F p = none) : Sl K F0 H0 F (Mi.hide H p) σ (env.set i none) := by
  refine ⟨⟨S.adv.f, fun a u q => ?_, fun a u q => ?_, S.adv.out⟩, fun j sk' q => ?_, fun j k sk1 sk2 p' hjk e1 e2 o1 o2 h1 => ?_, by rw [List.length_set]; exact S.len⟩
  · rw [hide_ne (ne_of_none q h0)]; exact S.adv.h a u q
  · rw [hide_ne (ne_of_none q hf)]; exact S.adv.in_ a u q
  · obtain ⟨z, q⟩ := set_none_get q
    obtain ⟨w, h1, h2⟩ := S.slot j sk' q
    exact ⟨w, h1, h2.hide fun o2 zz => S.dis j i _ _ p z q hi o2 ho (by rw [h1, zz]) hs⟩
  · exact S.dis j k sk1 sk2 p' hjk (set_none_get e1).2 (set_none_get e2).2 o1 o2 h1
end
/-! ### what follows a value whose expression changes an object -/
section
variable (K : PySem.W.Frag) (W : WX) (F0 H0 F : Hp) (σ : L2.St)
def KM {α S : Type} [ToD α] (env' : S → En) (envE : En) (Q : VK) : Res (MoR α S) → Prop
  | .ok z => ∀ v F' H', Ex F F' → Sl K F0 H0 F' H' σ (env' z.s) → Rep K F' (toD z.x) v → Q v H'
  | .exc c => ∀ F' H', Ex F F' → Sl K F0 H0 F' H' σ envE → W (.ref (He.ga K c)) none σ H'
  | .stuck => False
def KMA {β S : Type} [ToDs β] (env' : S → En) (envE : En) (Q : List V → Hp → Prop) : Res (MoR β S) → Prop
  | .ok z => ∀ vs F' H', Ex F F' → Sl K F0 H0 F' H' σ (env' z.s) → Reps K F' (ToDs.ds z.x) vs → Q vs H'
  | .exc c => ∀ F' H', Ex F F' → Sl K F0 H0 F' H' σ envE → W (.ref (He.ga K c)) none σ H'
  | .stuck => False
end
def EvM (K : PySem.W.Frag) (W : WX) (env : En) {S : Type} (env' : S → En) (envE : En) (te : TE) {α : Type} [ToD α] (m : Res (MoR α S)) : Prop :=
  ∀ F0 H0 F H σ Q, Sl K F0 H0 F H σ env → KM K W F0 H0 F σ env' envE Q m → te σ H Q
def EvMA (K : PySem.W.Frag) (W : WX) (env : En) {S : Type} (env' : S → En) (envE : En) (ta : TA) {β : Type} [ToDs β] (m : Res (MoR β S)) : Prop :=
  ∀ F0 H0 F H σ Q, Sl K F0 H0 F H σ env → KMA K W F0 H0 F σ env' envE Q m → ta σ H Q
/-- the promise of a method of such an object -/
def KO (K : PySem.W.Frag) (F H : Hp) (p : Addr) {α S : Type} [ToD α] [ToD S] (Q : VK) (E : XK) : Res (MoR α S) → Prop
  | .ok z => ∀ v F' H', Adv F (hide H p) F' H' → At K F' H' p (toD z.s) → Rep K F' (toD z.x) v → Q v H'
  | .exc c => ∀ F' H', Adv F (hide H p) F' H' → E (.ref (He.ga K c)) none H'
  | .stuck => False
def spO (K : PySem.W.Frag) {α S δ : Type} [ToD α] [ToD S] [ToDs δ] (f : S × δ → Res (MoR α S)) : Sp := fun vs H Q E => ∃ F s y p ws, vs = .ref p :: ws ∧ Ex F H ∧ At K F H p (toD s) ∧ Reps K F (ToDs.ds y) ws ∧ KO K F H p Q E (f (s, y))
section
variable {K : PySem.W.Frag} {W : WX} {env envE : En} {α β γ S : Type} [ToD α] [ToD β] [ToD γ] [ToD S] {env' : S → En} {te ta tb : TE} {r : R2}
end
/-! ### statements -/
section
variable {K : PySem.W.Frag} {W : WX} {F0 H0 F H : Hp} {rt : VK} {PT : En → Prop} {env envE : En} {α β S τ : Type} [ToD α] [ToD β] [ToD S] [ToD τ] [ToR τ] {KP : Res τ → Prop} {env' : S → En} {te : TE} {Z : Ends}
end
section
variable {K : PySem.W.Frag} {W : WX} {F0 H0 F H : Hp} {rt : VK} {PT : En → Prop} {env envE : En} {α S : Type} [ToD α] [ToD S] {p : Addr} {KP : Res (Mo p α S) → Prop} {env' : S → En} {te : TE} {Z : Ends}
end
section
variable {K : PySem.W.Frag} {W : WX} {F0 H0 F H : Hp} {rt : VK} {PT : En → Prop} {env : En} {S : Type} [ToD S] {p : Addr} {KP : Res (Mo p Unit S) → Prop} {Z : Ends}
end
/-! ### a method, an __init__ of such an object -/
section
variable {P : Program} {w : World} {K : PySem.W.Frag} {mg : Str → Option Value} {base : Heap} {x qual : Str} {params : Arguments} {body : List Stmt} {scope : Scope} {dvs : List V} {kws : List (Str × V)} {f : Addr} {fd : FuncData}
/-- the promise of an __init__ of such an object -/
def spJ (K : PySem.W.Frag) (c : Str) {S δ : Type} [ToD S] [ToDs δ] (f : δ → Res (MoR Unit S)) : Sp := fun vs H Q E => ∃ F y p dx ws, vs = .ref p :: ws ∧ Ex F H ∧ F p = none ∧ H p = some (.ins (He.ga K c) dx []) ∧ Reps K F (ToDs.ds y) ws ∧ KO K F H p Q E (f y)
end
/-! ### a new object that is changed later -/
def KOb (K : PySem.W.Frag) (W : WX) (F H : Hp) (σ : L2.St) {S : Type} [ToD S] (Q : VK) : Res S → Prop
  | .ok s => ∀ p F' H', Adv F H F' H' → H p = none → At K F' H' p (toD s) → Q (.ref p) H'
  | .exc c => ∀ F' H', Adv F H F' H' → W (.ref (He.ga K c)) none σ H'
  | .stuck => False
def EvO (K : PySem.W.Frag) (W : WX) (env : En) (te : TE) {S : Type} [ToD S] (m : Res S) : Prop :=
  ∀ F0 H0 F H σ Q, Sl K F0 H0 F H σ env → KOb K W F H σ Q m → te σ H Q
section
variable {K : PySem.W.Frag} {W : WX} {env : En} {S τ : Type} [ToD S] {te : TE}
/-- C(.., k = v, ..) -/
def tMakeNS (C : Addr) (n m : Nat) (sp : Sp) (gV : List V → List V → List V) (E : L2.St → XK) (t tk : TA) : TE := fun σ H Q => t σ H fun vs H1 => tk σ H1 fun zs H2 => vs.length = n ∧ zs.length = m ∧ ∀ x dx, H2 x = none → H2 dx = none → dx ≠ x →
  sp (gV (.ref x :: vs) zs) (upd (upd H2 dx (.own x)) x (.ins C dx [])) (fun v H3 => v = .non ∧ Q (.ref x) H3) (E σ)
end
section
variable {X : Cx} {CX : CXT} {k n : Nat} {f C : Addr} {fd : FuncData} {ps ks : List Str} {sp : Sp} {E : L2.St → XK} {x : Str} {p pos : Pos} {e : Expr} {es : List Expr} {kws : List Keyword} {t tk : TA} {g : List Value → List Value → List Value} {gV : List V → List V → List V}
end
section
variable {K : PySem.W.Frag} {W : WX} {F0 H0 : Hp} {rt : VK} {PT : En → Prop} {env : En} {S τ : Type} [ToD S] [ToD τ] [ToR τ] {KP : Res τ → Prop} {te : TE} {Z : Ends}
end
end Mi
set_option maxHeartbeats 1000000
namespace Mi
open PySem PySem.Spec L2
open PyProof.Rows
open Evl (Ex)
/-! ### a comprehension whose element raises -/
section
variable {X : Cx} {pins : List (Addr × Obj)} {σ : L2.St} {H3 : Hp} {s3 : Shared} {scope : Scope} {ce : Env} {fp : List Addr} {E : XK}
/-- what a block asks of a raise -/
abbrev blkX (X : Cx) (ce : Env) : Value → Shared → Prop := notedBy (model X.prog X.w) X.A ce (CompFails (model X.prog X.w) X.A X.xe ce)
end
section
variable {K : PySem.W.Frag} {F0 H0 F H F' H' F1 : Hp} {env env' : En} {α β : Type} [ToD α] [ToD β] {te : TE} {tt : TT} {σ : L2.St}
end
noncomputable def compL2G {α β γ : Type} (it : α → Res (List β)) (el : α → β → γ) : List α → List γ → Res (List γ)
  | [], acc => .ok acc
  | x :: xs, acc => (it x).bind fun ys => .need (acc.length + ys.length ≤ 16777216) (compL2G it el xs (acc ++ ys.map (el x)))
section
variable {K : PySem.W.Frag} {env : En} {te : TE} {α β γ : Type} [ToD α] [ToD β] [ToD γ]
end
/-! ### a name that a loop sets, and that is read behind it -/
abbrev lateM {α : Type} [ToD α] (o : Option α) : Option Sk := o.bind iM
end Mi
set_option maxHeartbeats 4000000
namespace Mi
open PySem PySem.Spec L2 PyProof.Rows
open Evl (Ex)
def rRepTA (K : PySem.W.Frag) : R2 := fun x y H Q => ∃ a k xs, x = .ref a ∧ y = .int k ∧ SqT K H a xs ∧ xs ≠ [] ∧ 0 ≤ k ∧ k ≤ 1000 ∧ xs.length ≤ 1000 ∧ (k = 1 → Q (.ref a) H) ∧
  (k ≠ 1 → ∀ p, H p = none → Q (.ref p) (upd H p (.tup (List.replicate k.toNat xs).flatten)))
section
variable {K : PySem.W.Frag} {α : Type} [ToD α]
end

/-! ### an owned list, inserted into and popped at a place -/
section
variable {K : PySem.W.Frag} {W : WX} {F0 H0 : Hp} {rt : VK} {PT : En → Prop} {env : En} {τ β : Type} [ToD τ] [ToR τ] [ToD β] {KP : Res τ → Prop} {Z : Ends} {te ti : TE}
end

/-! ### values read as lists of texts, as lists of pairs of texts with two values behind -/
def mapR {α : Type} (f : D → Res α) : List D → Res (List α)
  | [] => .ok []
  | x :: r => (f x).bind fun y => (mapR f r).bind fun ys => .ok (y :: ys)
def D.asStrs : D → Res (List Str)
  | .lst xs => mapR D.asStr xs
  | _ => .stuck
def D.asS2 : D → Res (T4 Str Str D D)
  | .tup [.str a, .str b, c, d] => .ok ⟨a, b, c, d⟩
  | _ => .stuck
def D.asS2s : D → Res (List (T4 Str Str D D))
  | .lst xs => mapR D.asS2 xs
  | _ => .stuck
/-- the empty tuple -/
structure T0 where
instance : ToD T0 := ⟨fun _ => .tup []⟩
/-! ### a new list, its items as values of any kind -/
section
variable {K : PySem.W.Frag} {W : WX} {env : En} {te : TE} {α : Type} [ToD α]
theorem en_toD {m : Res (List α)} (h : EvN K W env te m) : EvN K W env te (m.bind fun xs => .ok (xs.map (toD : α → D))) := fun F0 H0 F H σ Q S k => by
  refine h F0 H0 F H σ Q S ?_
  cases m with
  | ok xs =>
    intro p vs F1 H1 a1 h1 h2 h3 h4
    refine k p vs F1 H1 a1 h1 h2 h3 ?_
    have e : (xs.map (toD : α → D)).map (toD : D → D) = xs.map toD := by
      rw [List.map_map]; rfl
    exact (congrArg (fun z => Reps K F1 z vs) e).mpr h4
  | exc c => exact k
  | stuck => exact k.elim
end

/-! ### {} -/
theorem ev_dnil {K : PySem.W.Frag} {W : WX} {env : En} : EvX K W env tDNewK (.ok (D.dct [] [])) := fun F0 H0 F H σ Q S k => fun p hp => by
  refine k (.ref p) _ _ (Adv.new S.ex hp) ⟨p, [], rfl, ?_, rfl, rfl, List.nodup_nil⟩
  exact upd_same

/-! ### two tuples of any length joined, neither empty -/
section
variable {K : PySem.W.Frag} {α : Type} [ToD α]
theorem opx_catU : OpX K (rCatT K) (fun (x : Tu α) (y : Tu α) => .need (x.xs ≠ [] ∧ y.xs ≠ [] ∧ x.xs.length + y.xs.length ≤ 100000) (.ok (Tu.mk (x.xs ++ y.xs)))) := fun F H x y v u Q e h1 h2 k => by
  obtain ⟨a, vs, rfl, s1, r1⟩ := h1
  obtain ⟨b, us, rfl, s2, r2⟩ := h2
  by_cases c : x.xs ≠ [] ∧ y.xs ≠ [] ∧ x.xs.length + y.xs.length ≤ 100000
  · simp only [Res.need_pos c] at k
    have l1 := r1.length
    have l2 := r2.length
    rw [List.length_map] at l1 l2
    refine ⟨a, b, vs, us, rfl, rfl, Evl.ex_t e s1, Evl.ex_t e s2, ?_, ?_, ?_, ?_⟩
    · intro z; subst z; exact c.1 (List.length_eq_zero_iff.mp l1)
    · rw [← l1, ← l2]; exact Evl.sz_of c.2.2
    · intro z; subst z; exact absurd (List.length_eq_zero_iff.mp l2) c.2.1
    · intro _ p hp
      have a2 : Adv F H (upd F p (.tup (vs ++ us))) (upd H p (.tup (vs ++ us))) := Adv.new e hp
      refine k _ _ _ a2 ⟨p, _, rfl, .inl (.inl upd_same), ?_⟩
      rw [List.map_append]
      exact Reps.mono a2.f _ _ (Reps.append r1 r2)
  · simp only [Res.need_neg c] at k
    exact k.elim
end

/-! ### an owned list cut, and joined with another list -/
section
variable {K : PySem.W.Frag} {W : WX} {env : En} {α : Type} [ToD α] {tb : TE}
theorem en_sliceO {j : Nat} {xs : List α} {lo hi : Option Int} {tl th : TO} (h : env[j]? = some (some (.ow (xs.map toD)))) (hl : ∀ σ H Q, Q lo H → tl σ H Q) (hh : ∀ σ H Q, Q hi H → th σ H Q) :
    EvN K W env (tSl (rSlL K) (tVar j) tl th) (.ok (cutL xs lo hi)) := fun F0 H0 F H σ Q S k => by
  obtain ⟨v, e, p, vs, rfl, h0, hf, hp, hr⟩ := S.slot j _ h
  refine ⟨_, e, hl _ _ _ (hh _ _ _ ⟨p, vs, rfl, .inl (.inl hp), fun l hl => ?_⟩)⟩
  refine k l _ F _ (Adv.newO S.ex hl) hl (none_of_ex S.ex hl) upd_same ?_
  have e : xs.length = vs.length := by have := hr.length; rwa [List.length_map] at this
  unfold cutV cutL
  rw [List.map_take, List.map_drop, e]
  exact Reps.take _ (Reps.drop _ hr)
theorem en_catO {j : Nat} {xs : List α} {m2 : Res (List α)} (h : env[j]? = some (some (.ow (xs.map toD)))) (hb : EvX K W env tb m2) : EvN K W env (tOp rCat (tVar j) tb) (m2.bind fun y => .need (xs.length + y.length ≤ 16777216) (.ok (xs ++ y))) := fun F0 H0 F H σ Q S k => by
  obtain ⟨v, e, p, vs, rfl, h0, hf, hp, hr⟩ := S.slot j _ h
  refine ⟨_, e, hb F0 H0 F H σ _ S ?_⟩
  cases m2 with
  | ok y =>
    intro u F2 H2 a2 r2
    have k : KN K W F H σ Q (Res.need (xs.length + y.length ≤ 16777216) (.ok (xs ++ y))) := k
    by_cases c : xs.length + y.length ≤ 16777216
    · rw [Res.need_pos c] at k
      obtain ⟨q, ws, rfl, g1, g2⟩ := r2
      have l1 := hr.length
      have l2 := g2.length
      rw [List.length_map] at l1 l2
      refine ⟨p, q, vs, ws, rfl, rfl, a2.h _ _ hp, a2.in_ _ _ g1, ?_, fun z hz => ?_⟩
      · rw [← l1, ← l2]; exact c
      · refine k z (vs ++ ws) F2 _ (a2.trans (Adv.newO a2.in_ hz)) (Evl.fresh_back a2.h hz) (none_of_ex a2.in_ hz) upd_same ?_
        rw [List.map_append]
        exact Reps.append (Reps.mono a2.f _ _ hr) g2
    · rw [Res.need_neg c] at k; exact k.elim
  | exc c => exact k
  | stuck => exact k.elim
end

theorem opx_leS {K : PySem.W.Frag} : OpX K (fun x y H Q => ∃ i j, x = .str i ∧ y = .str j ∧ Q (.bl (!decide (j.cps.toList < i.cps.toList))) H) (fun (i j : Str) => .ok (!decide (j.cps.toList < i.cps.toList))) := fun F H x y v u Q e h1 h2 k =>
  ⟨x, y, h1, h2, k _ F H (Adv.refl e) rfl⟩

/-! ### where a text first stands in a list of texts -/
def sfind : List Str → Str → Option Nat
  | [], _ => none
  | x :: r, y => if x = y then some 0 else (sfind r y).map (· + 1)
theorem sfind_ok : ∀ {xs : List Str} {y : Str} {j : Nat}, sfind xs y = some j → xs[j]? = some y ∧ ∀ (m : Nat) (z : Str), m < j → xs[m]? = some z → z ≠ y
  | [], y, j, h => by cases h
  | x :: r, y, j, h => by
    unfold sfind at h
    by_cases c : x = y
    · rw [if_pos c] at h
      cases h
      exact ⟨by rw [c]; rfl, fun m z hm => absurd hm (Nat.not_lt_zero _)⟩
    · rw [if_neg c] at h
      cases q : sfind r y with
      | none => rw [q] at h; cases h
      | some i =>
        rw [q] at h
        cases h
        obtain ⟨a, b⟩ := sfind_ok q
        refine ⟨a, fun m z hm hz => ?_⟩
        cases m with
        | zero => cases hz; exact c
        | succ m => exact b m z (Nat.lt_of_succ_lt_succ hm) hz
section
variable {K : PySem.W.Frag} {W : WX} {env : En} {to te : TE}
theorem ev_lindexS {m1 : Res (List Str)} {m2 : Res Str} (h1 : EvX K W env to m1) (h2 : EvX K W env te m2) :
    EvX K W env (tBM K "list" (rIndex K) to (tCons te tNil)) (m1.bind fun xs => m2.bind fun y => match sfind xs y with | some j => .ok ((j : Nat) : Int) | none => .stuck) := fun F0 H0 F H σ Q S k => by
  refine h1 F0 H0 F H σ _ S (KE.cut S.ex k fun xs v F1 H1 e1 a1 r1 k1 => ?_)
  obtain ⟨p, vs, rfl, hl, hr⟩ := r1
  have hr : Reps K F1 (xs.map D.str) vs := hr
  have q := hr.strs
  subst q
  refine ⟨.inl ⟨rfl, _, sq_ex a1.in_ hl⟩, ?_⟩
  refine h2 F0 H0 F1 H1 σ _ (S.step a1) (KE.cut a1.in_ k1 fun y u F2 H2 e2 a2 r2 k2 => ?_)
  cases (show u = V.str y from r2)
  cases q : sfind xs y with
  | none => rw [q] at k2; exact k2.elim
  | some j =>
    rw [q] at k2
    obtain ⟨b1, b2⟩ := sfind_ok q
    refine ⟨p, _, .str y, j, .str y, rfl, rfl, .inl (.inl (a2.h _ _ (a1.in_ _ _ hl))), rfl, flat_strV _, by rw [List.getElem?_map, b1]; rfl, beq_self_eq_true y, fun m z' hm hz => ?_, k2 _ F2 H2 (Adv.refl a2.in_) rfl⟩
    rw [List.getElem?_map] at hz
    cases g : xs[m]? with
    | none => rw [g] at hz; cases hz
    | some z =>
      rw [g] at hz
      cases hz
      exact beq_eq_false_iff_ne.mpr (b2 m z hm g)
end

/-- a tuple of four values -/
def D.asT4 : D → Res (T4 D D D D)
  | .tup [a, b, c, d] => .ok ⟨a, b, c, d⟩
  | _ => .stuck
theorem asT4_ok : ∀ (x : D) (y : T4 D D D D), x.asT4 = .ok y → toD y = x := by
  intro x y h
  unfold D.asT4 at h
  split at h
  · cases h; rfl
  · cases h
theorem asT4_x (x : D) (c : Str) : x.asT4 ≠ .exc c := by intro h; unfold D.asT4 at h; split at h <;> cases h
end Mi
set_option maxHeartbeats 4000000
namespace Mi
open PySem PySem.Spec L2
def topS (i : Nat) : Stmt := PySem.Challenge.pw_curveseal_k65_entries.main.body.getD i (.Pass ⟨0, 0, 0, 0⟩)

abbrev s_is_whole : Stmt := topS 6
theorem sc_is_whole : FnScope ["value"] ["value"] (defScope s_is_whole) := ⟨rfl, rfl, rfl, by decide +kernel, rfl, by decide +kernel, by decide +kernel⟩
abbrev s_to_little : Stmt := topS 7
theorem sc_to_little : FnScope ["number", "size", "at"] ["number", "size"] (defScope s_to_little) := ⟨rfl, rfl, rfl, by decide +kernel, rfl, by decide +kernel, by decide +kernel⟩
abbrev s_to_big : Stmt := topS 8
theorem sc_to_big : FnScope ["number", "size"] ["number", "size"] (defScope s_to_big) := ⟨rfl, rfl, rfl, by decide +kernel, rfl, by decide +kernel, by decide +kernel⟩
abbrev s_is_bytes : Stmt := topS 9
theorem sc_is_bytes : FnScope ["value", "item"] ["value"] (defScope s_is_bytes) := ⟨rfl, rfl, rfl, by decide +kernel, rfl, by decide +kernel, by decide +kernel⟩
abbrev s_ascii_codes : Stmt := topS 10
theorem sc_ascii_codes : FnScope ["text", "codes", "code", "character"] ["text"] (defScope s_ascii_codes) := ⟨rfl, rfl, rfl, by decide +kernel, rfl, by decide +kernel, by decide +kernel⟩
abbrev s_is_entry : Stmt := topS 20
theorem sc_is_entry : FnScope ["value", "kind", "author", "body", "signature"] ["value"] (defScope s_is_entry) := ⟨rfl, rfl, rfl, by decide +kernel, rfl, by decide +kernel, by decide +kernel⟩
abbrev s_u_is_body : Stmt := topS 21
theorem sc_u_is_body : FnScope ["kind", "body"] ["kind", "body"] (defScope s_u_is_body) := ⟨rfl, rfl, rfl, by decide +kernel, rfl, by decide +kernel, by decide +kernel⟩
abbrev s_u_is_byte_tuple : Stmt := topS 22
theorem sc_u_is_byte_tuple : FnScope ["value", "longest"] ["value", "longest"] (defScope s_u_is_byte_tuple) := ⟨rfl, rfl, rfl, by decide +kernel, rfl, by decide +kernel, by decide +kernel⟩
abbrev s_u_is_text : Stmt := topS 23
theorem sc_u_is_text : FnScope ["value"] ["value"] (defScope s_u_is_text) := ⟨rfl, rfl, rfl, by decide +kernel, rfl, by decide +kernel, by decide +kernel⟩
abbrev s_pack : Stmt := topS 24
theorem sc_pack : FnScope ["parts", "part", "byte"] ["parts"] (defScope s_pack) := ⟨rfl, rfl, rfl, by decide +kernel, rfl, by decide +kernel, by decide +kernel⟩
abbrev s_u_law_cell : Stmt := topS 26
theorem sc_u_law_cell : FnScope ["script", "k"] ["script", "k"] (defScope s_u_law_cell) := ⟨rfl, rfl, rfl, by decide +kernel, rfl, by decide +kernel, by decide +kernel⟩
abbrev s_u_law_twice : Stmt := topS 27
theorem sc_u_law_twice : FnScope ["cell", "k", "x"] ["cell", "k"] (defScope s_u_law_twice) := ⟨rfl, rfl, rfl, by decide +kernel, rfl, by decide +kernel, by decide +kernel⟩
abbrev s_u_law_bytes : Stmt := topS 28
theorem sc_u_law_bytes : FnScope ["cell", "size", "left", "great", "data", "k"] ["cell", "size"] (defScope s_u_law_bytes) := ⟨rfl, rfl, rfl, by decide +kernel, rfl, by decide +kernel, by decide +kernel⟩
abbrev s_u_law_integer : Stmt := topS 29
theorem sc_u_law_integer : FnScope ["x"] ["x"] (defScope s_u_law_integer) := ⟨rfl, rfl, rfl, by decide +kernel, rfl, by decide +kernel, by decide +kernel⟩
abbrev s_u_law_is_list : Stmt := topS 30
theorem sc_u_law_is_list : FnScope ["found", "due", "one", "other"] ["found", "due"] (defScope s_u_law_is_list) := ⟨rfl, rfl, rfl, by decide +kernel, rfl, by decide +kernel, by decide +kernel⟩
abbrev s_u_law_text : Stmt := topS 31
theorem sc_u_law_text : FnScope ["cell", "texts"] ["cell"] (defScope s_u_law_text) := ⟨rfl, rfl, rfl, by decide +kernel, rfl, by decide +kernel, by decide +kernel⟩
abbrev s_u_law_data : Stmt := topS 32
theorem sc_u_law_data : FnScope ["cell", "most", "size", "data"] ["cell", "most"] (defScope s_u_law_data) := ⟨rfl, rfl, rfl, by decide +kernel, rfl, by decide +kernel, by decide +kernel⟩
abbrev s_u_law_rights : Stmt := topS 33
theorem sc_u_law_rights : FnScope ["cell"] ["cell"] (defScope s_u_law_rights) := ⟨rfl, rfl, rfl, by decide +kernel, rfl, by decide +kernel, by decide +kernel⟩
abbrev s_u_law_body : Stmt := topS 34
theorem sc_u_law_body : FnScope ["kind", "cell"] ["kind", "cell"] (defScope s_u_law_body) := ⟨rfl, rfl, rfl, by decide +kernel, rfl, by decide +kernel, by decide +kernel⟩
abbrev s_u_law_other : Stmt := topS 35
theorem sc_u_law_other : FnScope ["cell"] ["cell"] (defScope s_u_law_other) := ⟨rfl, rfl, rfl, by decide +kernel, rfl, by decide +kernel, by decide +kernel⟩
abbrev s_u_law_value : Stmt := topS 36
theorem sc_u_law_value : FnScope ["script", "k", "cell", "kind", "body", "value", "how"] ["script", "k"] (defScope s_u_law_value) := ⟨rfl, rfl, rfl, by decide +kernel, rfl, by decide +kernel, by decide +kernel⟩
abbrev s_u_law_is_text : Stmt := topS 37
theorem sc_u_law_is_text : FnScope ["value", "sign"] ["value"] (defScope s_u_law_is_text) := ⟨rfl, rfl, rfl, by decide +kernel, rfl, by decide +kernel, by decide +kernel⟩
abbrev s_u_law_is_data : Stmt := topS 38
theorem sc_u_law_is_data : FnScope ["value", "most", "byte"] ["value", "most"] (defScope s_u_law_is_data) := ⟨rfl, rfl, rfl, by decide +kernel, rfl, by decide +kernel, by decide +kernel⟩
abbrev s_u_law_is_body : Stmt := topS 39
theorem sc_u_law_is_body : FnScope ["kind", "body"] ["kind", "body"] (defScope s_u_law_is_body) := ⟨rfl, rfl, rfl, by decide +kernel, rfl, by decide +kernel, by decide +kernel⟩
abbrev s_u_law_due : Stmt := topS 40
theorem sc_u_law_due : FnScope ["value", "kinds"] ["value"] (defScope s_u_law_due) := ⟨rfl, rfl, rfl, by decide +kernel, rfl, by decide +kernel, by decide +kernel⟩
abbrev s_u_law_pack : Stmt := topS 41
theorem sc_u_law_pack : FnScope ["parts", "data", "part"] ["parts"] (defScope s_u_law_pack) := ⟨rfl, rfl, rfl, by decide +kernel, rfl, by decide +kernel, by decide +kernel⟩
abbrev s_law : Stmt := topS 42
theorem sc_law : FnScope ["script", "k", "value", "found", "parts", "cell", "given", "part"] ["script"] (defScope s_law) := ⟨rfl, rfl, rfl, by decide +kernel, rfl, by decide +kernel, by decide +kernel⟩
def errs : List Str := ["CurveError", "OutOfRange", "Malformed"]
def ancE : List (Str × List Str) := [("CurveError", ["CurveError"]), ("OutOfRange", ["OutOfRange", "CurveError"]), ("Malformed", ["Malformed", "CurveError"])]
def subE (c d : Str) : Bool := match ancE.lookup c with | some l => decide (d ∈ l) | none => false
def k_ADMIT : Str := ("admit" : Str)
def k_REPLACE : Str := ("replace" : Str)
def k_RIGHTS : (T8 Str Str Str Str Str Str Str Str) := (T8.mk ("" : Str) ("a" : Str) ("s" : Str) ("w" : Str) ("as" : Str) ("aw" : Str) ("sw" : Str) ("asw" : Str))
def k_STATE : Str := ("state" : Str)
def k_WITHDRAW : Str := ("withdraw" : Str)
def fileS : Str := PySem.Challenge.pw_curveseal_k65_entries.main.file
/-! ### the head -/
def dfs : List He.DefD := [⟨("is_whole", none), "is_whole", "is_whole", defArgs s_is_whole, defBody s_is_whole, defScope s_is_whole, [], []⟩, ⟨("to_little", none), "to_little", "to_little", defArgs s_to_little, defBody s_to_little, defScope s_to_little, [], []⟩, ⟨("to_big", none), "to_big", "to_big", defArgs s_to_big, defBody s_to_big, defScope s_to_big, [], []⟩, ⟨("is_bytes", none), "is_bytes", "is_bytes", defArgs s_is_bytes, defBody s_is_bytes, defScope s_is_bytes, [], []⟩, ⟨("ascii_codes", none), "ascii_codes", "ascii_codes", defArgs s_ascii_codes, defBody s_ascii_codes, defScope s_ascii_codes, [], []⟩, ⟨("is_entry", none), "is_entry", "is_entry", defArgs s_is_entry, defBody s_is_entry, defScope s_is_entry, [], []⟩, ⟨("_is_body", none), "_is_body", "_is_body", defArgs s_u_is_body, defBody s_u_is_body, defScope s_u_is_body, [], []⟩, ⟨("_is_byte_tuple", none), "_is_byte_tuple", "_is_byte_tuple", defArgs s_u_is_byte_tuple, defBody s_u_is_byte_tuple, defScope s_u_is_byte_tuple, [], []⟩, ⟨("_is_text", none), "_is_text", "_is_text", defArgs s_u_is_text, defBody s_u_is_text, defScope s_u_is_text, [], []⟩, ⟨("pack", none), "pack", "pack", defArgs s_pack, defBody s_pack, defScope s_pack, [], []⟩, ⟨("_law_cell", none), "_law_cell", "_law_cell", defArgs s_u_law_cell, defBody s_u_law_cell, defScope s_u_law_cell, [], []⟩, ⟨("_law_twice", none), "_law_twice", "_law_twice", defArgs s_u_law_twice, defBody s_u_law_twice, defScope s_u_law_twice, [], []⟩, ⟨("_law_bytes", none), "_law_bytes", "_law_bytes", defArgs s_u_law_bytes, defBody s_u_law_bytes, defScope s_u_law_bytes, [], []⟩, ⟨("_law_integer", none), "_law_integer", "_law_integer", defArgs s_u_law_integer, defBody s_u_law_integer, defScope s_u_law_integer, [], []⟩, ⟨("_law_is_list", none), "_law_is_list", "_law_is_list", defArgs s_u_law_is_list, defBody s_u_law_is_list, defScope s_u_law_is_list, [], []⟩, ⟨("_law_text", none), "_law_text", "_law_text", defArgs s_u_law_text, defBody s_u_law_text, defScope s_u_law_text, [], []⟩, ⟨("_law_data", none), "_law_data", "_law_data", defArgs s_u_law_data, defBody s_u_law_data, defScope s_u_law_data, [], []⟩, ⟨("_law_rights", none), "_law_rights", "_law_rights", defArgs s_u_law_rights, defBody s_u_law_rights, defScope s_u_law_rights, [], []⟩, ⟨("_law_body", none), "_law_body", "_law_body", defArgs s_u_law_body, defBody s_u_law_body, defScope s_u_law_body, [], []⟩, ⟨("_law_other", none), "_law_other", "_law_other", defArgs s_u_law_other, defBody s_u_law_other, defScope s_u_law_other, [], []⟩, ⟨("_law_value", none), "_law_value", "_law_value", defArgs s_u_law_value, defBody s_u_law_value, defScope s_u_law_value, [], []⟩, ⟨("_law_is_text", none), "_law_is_text", "_law_is_text", defArgs s_u_law_is_text, defBody s_u_law_is_text, defScope s_u_law_is_text, [], []⟩, ⟨("_law_is_data", none), "_law_is_data", "_law_is_data", defArgs s_u_law_is_data, defBody s_u_law_is_data, defScope s_u_law_is_data, [], []⟩, ⟨("_law_is_body", none), "_law_is_body", "_law_is_body", defArgs s_u_law_is_body, defBody s_u_law_is_body, defScope s_u_law_is_body, [], []⟩, ⟨("_law_due", none), "_law_due", "_law_due", defArgs s_u_law_due, defBody s_u_law_due, defScope s_u_law_due, [], []⟩, ⟨("_law_pack", none), "_law_pack", "_law_pack", defArgs s_u_law_pack, defBody s_u_law_pack, defScope s_u_law_pack, [], []⟩, ⟨("law", none), "law", "law", defArgs s_law, defBody s_law, defScope s_law, [], []⟩]
def sus : List SupD := []
def tbs : List He.Tab := []
def fas : List He.Fa := [.glo "is_whole", .glo "to_little", .glo "to_big", .glo "is_bytes", .glo "ascii_codes", .glo "is_entry", .glo "_is_body", .glo "_is_byte_tuple", .glo "_is_text", .glo "pack", .glo "_law_cell", .glo "_law_twice", .glo "_law_bytes", .glo "_law_integer", .glo "_law_is_list", .glo "_law_text", .glo "_law_data", .glo "_law_rights", .glo "_law_body", .glo "_law_other", .glo "_law_value", .glo "_law_is_text", .glo "_law_is_data", .glo "_law_is_body", .glo "_law_due", .glo "_law_pack", .glo "law", .glo "CurveError", .glo "OutOfRange", .glo "Malformed", .exc "Malformed", .exc "OutOfRange", .free "abs", .free "all", .free "bool", .free "int", .free "isinstance", .free "len", .free "list", .free "ord", .free "range", .free "str", .free "tuple", .free "zip", .int "LONGEST_DATA" 1024, .int "LONGEST_SIGNATURE" 256, .int "LONGEST_TEXT" 600, .int "PERCENT" 37, .exm "CurveError" "CurveError" true, .exm "CurveError" "OutOfRange" false, .exm "CurveError" "Malformed" false, .exm "OutOfRange" "CurveError" true, .exm "OutOfRange" "OutOfRange" true, .exm "OutOfRange" "Malformed" false, .exm "Malformed" "CurveError" true, .exm "Malformed" "OutOfRange" false, .exm "Malformed" "Malformed" true]
def cons_ : List (Str × D) := [("ADMIT", toD k_ADMIT), ("REPLACE", toD k_REPLACE), ("RIGHTS", toD k_RIGHTS), ("STATE", toD k_STATE), ("WITHDRAW", toD k_WITHDRAW)]
def exB (K : PySem.W.Frag) : Bool := (clsB K errs subE && conB K cons_)
abbrev Rw : PySem.W.OpenRow := PySem.W.OpenLaw.row PySem.Challenge.rw_curveseal_k65_entries
def ads : List Addr := ([3, 6, 4, 24, 37, 49, 58, 63, 70, 75, 80, 81, 88, 95, 102, 109, 114, 121, 128, 135, 142, 149, 156, 163, 170, 177, 184, 191, 198, 205, 212, 219, 226, 231, 0, 23, 36, 48, 57, 62] : List Addr) ++ ([69, 74, 79, 87, 94, 101, 108, 113, 120, 127, 134, 141, 148, 155, 162, 169, 176, 183, 190, 197, 204, 211, 218, 225, 230, 22, 25, 35, 47, 52, 53, 54, 55, 56, 59, 60, 61, 64, 65, 66] : List Addr) ++ ([67, 68, 71, 72, 73, 76, 77, 78, 82, 83, 84, 85, 86, 89, 90, 91, 92, 93, 96, 97, 98, 99, 100, 103, 104, 105, 106, 107, 110, 111, 112, 115, 116, 117, 118, 119, 122, 123, 124, 125] : List Addr) ++ ([126, 129, 130, 131, 132, 133, 136, 137, 138, 139, 140, 143, 144, 145, 146, 147, 150, 151, 152, 153, 154, 157, 158, 159, 160, 161, 164, 165, 166, 167, 168, 171, 172, 173, 174, 175, 178, 179, 180, 181] : List Addr) ++ ([182, 185, 186, 187, 188, 189, 192, 193, 194, 195, 196, 199, 200, 201, 202, 203, 206, 207, 208, 209, 210, 213, 214, 215, 216, 217, 220, 221, 222, 223, 224, 227, 228, 229, 2] : List Addr)
abbrev hk : PySem.W.Hook := hookZ ads fas dfs tbs sus exB
def ob (s : PySem.W.SharedT) : AlY := obsZ ads fas dfs tbs sus exB (HandSHeadRun.getT s)
theorem ob_eq (s : PySem.W.SharedT) : ob s = hk.obs s.abs := obsZ_eq (HandSHeadRun.getT_eq s)
/-! ### pieces -/
section
open PySem PySem.W PySem.Calls PyProof.Rows HandSHeadRun
def o0 (w : World) : Obj := oD [dE w "__name__" 1 (vS "builtins" 160), dE w "__doc__" 2 (vB "builtins.__doc__:str#opaque"), dE w "__package__" 3 (vB "builtins.__package__:str#opaque"), dE w "__loader__" 4 (vB "builtins.__loader__:shared#opaque"), dE w "__spec__" 5 (vB "builtins.__spec__#opaque"), dE w "__build_class__" 6 (vB "__build_class__"), dE w "__\x69mport__" 7 (vB "__\x69mport__"), dE w "abs" 8 (vB "abs"), dE w "all" 9 (vB "all"), dE w "any" 10 (vB "any"), dE w "ascii" 11 (vB "ascii"), dE w "bin" 12 (vB "bin"), dE w "breakpoint" 13 (vB "breakpoint"), dE w "callable" 14 (vB "callable"), dE w "chr" 15 (vB "chr"), dE w "compile" 16 (vB "compile"), dE w "delattr" 17 (vB "delattr"), dE w "dir" 18 (vB "dir"), dE w "divmod" 19 (vB "divmod"), dE w "eval" 20 (vB "eval"), dE w "exec" 21 (vB "exec"), dE w "format" 22 (vB "format"), dE w "getattr" 23 (vB "getattr"), dE w "globals" 24 (vB "globals"), dE w "hasattr" 25 (vB "hasattr"), dE w "hash" 26 (vB "hash"), dE w "hex" 27 (vB "hex"), dE w "id" 28 (vB "id"), dE w "input" 29 (vB "input"), dE w "isinstance" 30 (vB "isinstance"), dE w "issubclass" 31 (vB "issubclass"), dE w "iter" 32 (vB "iter"), dE w "aiter" 33 (vB "aiter"), dE w "len" 34 (vB "len"), dE w "locals" 35 (vB "locals"), dE w "max" 36 (vB "max"), dE w "min" 37 (vB "min"), dE w "next" 38 (vB "next"), dE w "anext" 39 (vB "anext"), dE w "oct" 40 (vB "oct"), dE w "ord" 41 (vB "ord"), dE w "pow" 42 (vB "pow"), dE w "print" 43 (vB "print"), dE w "repr" 44 (vB "repr"), dE w "round" 45 (vB "round"), dE w "setattr" 46 (vB "setattr"), dE w "sorted" 47 (vB "sorted"), dE w "sum" 48 (vB "sum"), dE w "vars" 49 (vB "vars"), dE w "None" 50 vN, dE w "Ellipsis" 51 .ellipsis, dE w "NotImplemented" 52 .notImplemented, dE w "False" 53 (.bool false), dE w "True" 54 (.bool true), dE w "bool" 55 (vT "bool"), dE w "memoryview" 56 (vT "memoryview"), dE w "bytearray" 57 (vT "bytearray"), dE w "bytes" 58 (vT "bytes"), dE w "classmethod" 59 (vT "classmethod"), dE w "complex" 60 (vT "complex"), dE w "dict" 61 (vT "dict"), dE w "enumerate" 62 (vT "enumerate"), dE w "filter" 63 (vT "filter"), dE w "float" 64 (vT "float"), dE w "frozenset" 65 (vT "frozenset"), dE w "property" 66 (vT "property"), dE w "int" 67 (vT "int"), dE w "list" 68 (vT "list"), dE w "map" 69 (vT "map"), dE w "object" 70 (vT "object"), dE w "range" 71 (vT "range"), dE w "reversed" 72 (vT "reversed"), dE w "set" 73 (vT "set"), dE w "slice" 74 (vT "slice"), dE w "staticmethod" 75 (vT "staticmethod"), dE w "str" 76 (vT "str"), dE w "super" 77 (vT "super"), dE w "tuple" 78 (vT "tuple"), dE w "type" 79 (vT "type"), dE w "zip" 80 (vT "zip"), dE w "__debug__" 81 (.bool true), dE w "BaseException" 82 (vT "BaseException"), dE w "BaseExceptionGroup" 83 (vT "BaseExceptionGroup"), dE w "Exception" 84 (vT "Exception"), dE w "GeneratorExit" 85 (vT "GeneratorExit"), dE w "KeyboardInterrupt" 86 (vT "KeyboardInterrupt"), dE w "SystemExit" 87 (vT "SystemExit"), dE w "ArithmeticError" 88 (vT "ArithmeticError"), dE w "AssertionError" 89 (vT "AssertionError"), dE w "AttributeError" 90 (vT "AttributeError"), dE w "BufferError" 91 (vT "BufferError"), dE w "EOFError" 92 (vT "EOFError"), dE w "ImportError" 93 (vT "ImportError"), dE w "LookupError" 94 (vT "LookupError"), dE w "MemoryError" 95 (vT "MemoryError"), dE w "NameError" 96 (vT "NameError"), dE w "OSError" 97 (vT "OSError"), dE w "ReferenceError" 98 (vT "ReferenceError"), dE w "RuntimeError" 99 (vT "RuntimeError"), dE w "StopAsyncIteration" 100 (vT "StopAsyncIteration"), dE w "StopIteration" 101 (vT "StopIteration"), dE w "SyntaxError" 102 (vT "SyntaxError"), dE w "SystemError" 103 (vT "SystemError"), dE w "TypeError" 104 (vT "TypeError"), dE w "ValueError" 105 (vT "ValueError"), dE w "Warning" 106 (vT "Warning"), dE w "FloatingPointError" 107 (vT "FloatingPointError"), dE w "OverflowError" 108 (vT "OverflowError"), dE w "ZeroDivisionError" 109 (vT "ZeroDivisionError"), dE w "BytesWarning" 110 (vT "BytesWarning"), dE w "DeprecationWarning" 111 (vT "DeprecationWarning"), dE w "EncodingWarning" 112 (vT "EncodingWarning"), dE w "FutureWarning" 113 (vT "FutureWarning"), dE w "ImportWarning" 114 (vT "ImportWarning"), dE w "PendingDeprecationWarning" 115 (vT "PendingDeprecationWarning"), dE w "ResourceWarning" 116 (vT "ResourceWarning"), dE w "RuntimeWarning" 117 (vT "RuntimeWarning"), dE w "SyntaxWarning" 118 (vT "SyntaxWarning"), dE w "UnicodeWarning" 119 (vT "UnicodeWarning"), dE w "UserWarning" 120 (vT "UserWarning"), dE w "BlockingIOError" 121 (vT "BlockingIOError"), dE w "ChildProcessError" 122 (vT "ChildProcessError"), dE w "ConnectionError" 123 (vT "ConnectionError"), dE w "FileExistsError" 124 (vT "FileExistsError"), dE w "FileNotFoundError" 125 (vT "FileNotFoundError"), dE w "InterruptedError" 126 (vT "InterruptedError"), dE w "IsADirectoryError" 127 (vT "IsADirectoryError"), dE w "NotADirectoryError" 128 (vT "NotADirectoryError"), dE w "PermissionError" 129 (vT "PermissionError"), dE w "ProcessLookupError" 130 (vT "ProcessLookupError"), dE w "TimeoutError" 131 (vT "TimeoutError"), dE w "IndentationError" 132 (vT "IndentationError"), dE w "_IncompleteInputError" 133 (vT "_IncompleteInputError"), dE w "IndexError" 134 (vT "IndexError"), dE w "KeyError" 135 (vT "KeyError"), dE w "ModuleNotFoundError" 136 (vT "ModuleNotFoundError"), dE w "NotImplementedError" 137 (vT "NotImplementedError"), dE w "PythonFinalizationError" 138 (vT "PythonFinalizationError"), dE w "RecursionError" 139 (vT "RecursionError"), dE w "UnboundLocalError" 140 (vT "UnboundLocalError"), dE w "UnicodeError" 141 (vT "UnicodeError"), dE w "BrokenPipeError" 142 (vT "BrokenPipeError"), dE w "ConnectionAbortedError" 143 (vT "ConnectionAbortedError"), dE w "ConnectionRefusedError" 144 (vT "ConnectionRefusedError"), dE w "ConnectionResetError" 145 (vT "ConnectionResetError"), dE w "TabError" 146 (vT "TabError"), dE w "UnicodeDecodeError" 147 (vT "UnicodeDecodeError"), dE w "UnicodeEncodeError" 148 (vT "UnicodeEncodeError"), dE w "UnicodeTranslateError" 149 (vT "UnicodeTranslateError"), dE w "ExceptionGroup" 150 (vT "ExceptionGroup"), dE w "EnvironmentError" 151 (vT "OSError"), dE w "IOError" 152 (vT "OSError"), dE w "open" 153 (vB "open"), dE w "quit" 154 (vB "builtins.quit#opaque"), dE w "exit" 155 (vB "builtins.exit#opaque"), dE w "copyright" 156 (vB "builtins.copyright#opaque"), dE w "credits" 157 (vB "builtins.credits#opaque"), dE w "license" 158 (vB "builtins.license#opaque"), dE w "help" 159 (vB "builtins.help#opaque")] 159
def o1 (w : World) : Obj := oD [dE w "builtins" 162 (vR 4), dE w "__main__" 163 (vR 5)] 2
def o2 (w : World) : Obj := ⟨vN, none, .dict [].toArray 0, [].toArray⟩
def o3 (w : World) : Obj := oD [dE w "__name__" 165 (vS "__main__" 164), dE w "__doc__" 166 vN, dE w "__package__" 167 vN, dE w "__loader__" 168 (vB "__main__.__loader__#opaque"), dE w "__spec__" 169 vN, dE w "__annotations__" 170 (vR 6), dE w "__builtins__" 171 (vR 4), dE w "__file__" 173 (vS "/claim/cut.py" 172), dE w "__cached__" 174 vN] 9
def o4 : Obj := ⟨(vT "module"), (some 0), .plain, [].toArray⟩
def o5 : Obj := ⟨(vT "module"), (some 3), .plain, [].toArray⟩
def o6 (w : World) : Obj := oD [] 0
def o7 : Obj := oT []
def o8 : Obj := oF vN []
def o9 : Obj := oF (vT "code") [(vS "<module>" 176), (vS "<module>" 177), (vS "/claim/cut.py" 178), (vI (1) 0), (vI (0) 0), (vI (0) 0), (vI (0) 0), (vI (0) 0), (vR 7), (.bool false), (vI (175) 0), (vR 8), vN, vN, vN, vN, (vI (179) 0), (vI (1) 0), (vS "/claim/cut.py" 180)]
def o10 : Obj := oP (vT "frame") [(some (vR 9)), (some (vR 3)), (some (vR 3)), none, (some (vS "__main__" 164)), none, (some (vR 0))]
def o11 : Obj := oT []
def o12 : Obj := oF vN []
def o13 : Obj := oF (vT "code") [(vS "<module>" 182), (vS "<module>" 183), (vS "/claim/cut.py" 184), (vI (1) 0), (vI (0) 0), (vI (0) 0), (vI (0) 0), (vI (0) 0), (vR 11), (.bool false), (vI (181) 0), (vR 12), vN, vN, vN, vN, (vI (185) 0), (vI (1) 0), (vS "/claim/cut.py" 186)]
def o14 : Obj := oP (vT "frame") [(some (vR 13)), (some (vR 3)), (some (vR 3)), none, (some (vS "__main__" 164)), none, (some (vR 0))]
def o3_1 (w : World) : Obj := oD [dE w "__name__" 165 (vS "law_curveseal_k65_entries" 341), dE w "__doc__" 166 vN, dE w "__package__" 167 vN, dE w "__loader__" 168 (vB "__main__.__loader__#opaque"), dE w "__spec__" 169 vN, dE w "__annotations__" 170 (vR 6), dE w "__builtins__" 171 (vR 4), dE w "__file__" 173 (vS "/claim/cut.py" 172), dE w "__cached__" 174 vN, dE w "CurveError" 206 (vR 24), dE w "OutOfRange" 222 (vR 37), dE w "Malformed" 238 (vR 49), dE w "PERCENT" 242 (vI (37) 241), dE w "is_whole" 249 (vR 58), dE w "to_little" 255 (vR 63), dE w "to_big" 263 (vR 70), dE w "is_bytes" 269 (vR 75), dE w "ascii_codes" 275 (vR 80), dE w "STATE" 279 (vS "state" 278), dE w "ADMIT" 281 (vS "admit" 280), dE w "REPLACE" 283 (vS "replace" 282), dE w "WITHDRAW" 285 (vS "withdraw" 284), dE w "RIGHTS" 294 (vR 81), dE w "LONGEST_TEXT" 296 (vI (600) 295), dE w "LONGEST_DATA" 298 (vI (1024) 297), dE w "LONGEST_SIGNATURE" 300 (vI (256) 299), dE w "is_entry" 311 (vR 88), dE w "_is_body" 319 (vR 95), dE w "_is_byte_tuple" 327 (vR 102), dE w "_is_text" 334 (vR 109), dE w "pack" 340 (vR 114), dE w "_law_cell" 350 (vR 121), dE w "_law_twice" 359 (vR 128), dE w "_law_bytes" 371 (vR 135), dE w "_law_integer" 378 (vR 142), dE w "_law_is_list" 388 (vR 149), dE w "_law_text" 396 (vR 156), dE w "_law_data" 406 (vR 163), dE w "_law_rights" 413 (vR 170), dE w "_law_body" 421 (vR 177), dE w "_law_other" 428 (vR 184), dE w "_law_value" 441 (vR 191), dE w "_law_is_text" 449 (vR 198), dE w "_law_is_data" 458 (vR 205), dE w "_law_is_body" 466 (vR 212), dE w "_law_due" 474 (vR 219), dE w "_law_pack" 483 (vR 226), dE w "law" 489 (vR 231)] 48
def o12_1 : Obj := oF vN [(vI (2) 0), (vI (0) 0), (vR 20), (vI (4) 0), (vI (0) 0), (vR 33), (vI (6) 0), (vI (0) 0), (vR 45), (vI (10) 0), (vI (0) 0), (vR 57), (vI (12) 0), (vI (0) 0), (vR 62), (vI (16) 0), (vI (0) 0), (vR 69), (vI (18) 0), (vI (0) 0), (vR 74), (vI (20) 0), (vI (0) 0), (vR 79), (vI (35) 0), (vI (0) 0), (vR 87), (vI (42) 0), (vI (0) 0), (vR 94), (vI (50) 0), (vI (0) 0), (vR 101), (vI (52) 0), (vI (0) 0), (vR 108), (vI (60) 0), (vI (0) 0), (vR 113), (vI (63) 0), (vI (0) 0), (vR 120), (vI (67) 0), (vI (0) 0), (vR 127), (vI (72) 0), (vI (0) 0), (vR 134), (vI (83) 0), (vI (0) 0), (vR 141), (vI (85) 0), (vI (0) 0), (vR 148), (vI (92) 0), (vI (0) 0), (vR 155), (vI (97) 0), (vI (0) 0), (vR 162), (vI (103) 0), (vI (0) 0), (vR 169), (vI (105) 0), (vI (0) 0), (vR 176), (vI (113) 0), (vI (0) 0), (vR 183), (vI (115) 0), (vI (0) 0), (vR 190), (vI (134) 0), (vI (0) 0), (vR 197), (vI (141) 0), (vI (0) 0), (vR 204), (vI (148) 0), (vI (0) 0), (vR 211), (vI (158) 0), (vI (0) 0), (vR 218), (vI (165) 0), (vI (0) 0), (vR 225), (vI (170) 0), (vI (0) 0), (vR 230)]
def o15 : Obj := oT [(vT "ValueError")]
def o16 : Obj := oF (vT "builtin_function_or_method") [(vB "type.__prepare__"), (vT "type")]
def o17 (w : World) : Obj := oD [dE w "__module__" 196 (vS "curveseal.errors" 187), dE w "__qualname__" 198 (vS "CurveError" 197), dE w "__firstlineno__" 200 (vI (2) 199), dE w "__static_attributes__" 201 (vR 22)] 4
def o18 : Obj := oT []
def o19 : Obj := oF vN []
def o20 : Obj := oF (vT "code") [(vS "CurveError" 191), (vS "CurveError" 192), (vS "/claim/cut.py" 193), (vI (2) 0), (vI (0) 0), (vI (0) 0), (vI (0) 0), (vI (0) 0), (vR 18), (.bool false), (vI (181) 0), (vR 19), vN, vN, vN, vN, (vI (194) 0), (vI (2) 0), (vS "/claim/cut.py" 195)]
def o21 : Obj := oP (vT "frame") [(some (vR 20)), (some (vR 3)), (some (vR 17)), none, (some (vS "curveseal.errors" 187)), none, (some (vR 0))]
def o22 : Obj := oT []
def o23 (w : World) : Obj := oD [dE w "__module__" 196 (vS "curveseal.errors" 187), dE w "__firstlineno__" 200 (vI (2) 199), dE w "__static_attributes__" 201 (vR 22), dE w "__weakref__" 203 (vR 25), dE w "__doc__" 204 vN] 3
def o24 : Obj := ⟨(vT "type"), none, .cls ⟨.ofString "CurveError", [(vT "ValueError")], [(vR 24), (vT "ValueError"), (vT "Exception"), (vT "BaseException"), (vT "object")], 23, .ofString "CurveError", true, [], [(vR 37), (vR 49)], false, none, false⟩, [(some (vR 15)), none, (some (vS "CurveError" 189)), (some (vS "CurveError" 197)), (some (vB "ValueError.__new__")), (some (.bool true))].toArray⟩
def o25 : Obj := oF (vT "getset_descriptor") [(vS "__weakref__" 202), (vR 24), (vB "ExceptionGroup.__weakref__"), vN]
def o26 : Obj := oF (vT "super") [(vR 24), (vR 24), (vR 24)]
def o27 : Obj := oF (vT "builtin_function_or_method") [(vB "object.__init_subclass__"), (vR 24)]
def o28 : Obj := oT [(vR 24)]
def o29 : Obj := oF (vT "builtin_function_or_method") [(vB "type.__prepare__"), (vT "type")]
def o30 (w : World) : Obj := oD [dE w "__module__" 214 (vS "curveseal.errors" 187), dE w "__qualname__" 216 (vS "OutOfRange" 215), dE w "__firstlineno__" 218 (vI (4) 217), dE w "__static_attributes__" 219 (vR 35)] 4
def o31 : Obj := oT []
def o32 : Obj := oF vN []
def o33 : Obj := oF (vT "code") [(vS "OutOfRange" 209), (vS "OutOfRange" 210), (vS "/claim/cut.py" 211), (vI (4) 0), (vI (0) 0), (vI (0) 0), (vI (0) 0), (vI (0) 0), (vR 31), (.bool false), (vI (181) 0), (vR 32), vN, vN, vN, vN, (vI (212) 0), (vI (4) 0), (vS "/claim/cut.py" 213)]
def o34 : Obj := oP (vT "frame") [(some (vR 33)), (some (vR 3)), (some (vR 30)), none, (some (vS "curveseal.errors" 187)), none, (some (vR 0))]
def o35 : Obj := oT []
def o36 (w : World) : Obj := oD [dE w "__module__" 214 (vS "curveseal.errors" 187), dE w "__firstlineno__" 218 (vI (4) 217), dE w "__static_attributes__" 219 (vR 35), dE w "__doc__" 220 vN] 2
def o37 : Obj := oC (vT "type") none "OutOfRange" [(vR 24)] [(vR 37), (vR 24), (vT "ValueError"), (vT "Exception"), (vT "BaseException"), (vT "object")] 36 "OutOfRange" [(some (vR 28)), none, (some (vS "OutOfRange" 207)), (some (vS "OutOfRange" 215)), (some (vB "ValueError.__new__")), (some (.bool true))]
def o38 : Obj := oF (vT "super") [(vR 37), (vR 37), (vR 37)]
def o39 : Obj := oF (vT "builtin_function_or_method") [(vB "object.__init_subclass__"), (vR 37)]
def o40 : Obj := oT [(vR 24)]
def o41 : Obj := oF (vT "builtin_function_or_method") [(vB "type.__prepare__"), (vT "type")]
def o42 (w : World) : Obj := oD [dE w "__module__" 230 (vS "curveseal.errors" 187), dE w "__qualname__" 232 (vS "Malformed" 231), dE w "__firstlineno__" 234 (vI (6) 233), dE w "__static_attributes__" 235 (vR 47)] 4
def o43 : Obj := oT []
def o44 : Obj := oF vN []
def o45 : Obj := oF (vT "code") [(vS "Malformed" 225), (vS "Malformed" 226), (vS "/claim/cut.py" 227), (vI (6) 0), (vI (0) 0), (vI (0) 0), (vI (0) 0), (vI (0) 0), (vR 43), (.bool false), (vI (181) 0), (vR 44), vN, vN, vN, vN, (vI (228) 0), (vI (6) 0), (vS "/claim/cut.py" 229)]
def o46 : Obj := oP (vT "frame") [(some (vR 45)), (some (vR 3)), (some (vR 42)), none, (some (vS "curveseal.errors" 187)), none, (some (vR 0))]
def o47 : Obj := oT []
def o48 (w : World) : Obj := oD [dE w "__module__" 230 (vS "curveseal.errors" 187), dE w "__firstlineno__" 234 (vI (6) 233), dE w "__static_attributes__" 235 (vR 47), dE w "__doc__" 236 vN] 2
def o49 : Obj := oC (vT "type") none "Malformed" [(vR 24)] [(vR 49), (vR 24), (vT "ValueError"), (vT "Exception"), (vT "BaseException"), (vT "object")] 48 "Malformed" [(some (vR 40)), none, (some (vS "Malformed" 223)), (some (vS "Malformed" 231)), (some (vB "ValueError.__new__")), (some (.bool true))]
def o50 : Obj := oF (vT "super") [(vR 49), (vR 49), (vR 49)]
def o51 : Obj := oF (vT "builtin_function_or_method") [(vB "object.__init_subclass__"), (vR 49)]
def o52 : Obj := oT []
def o53 : Obj := oF vN []
def o54 : Obj := oT [(vS "value" 246)]
def o55 : Obj := oT []
def o56 : Obj := oU vN "is_whole" "is_whole" (topS 6) 0 [] vN vN vN none vN vN 0 []
def o57 : Obj := oF (vT "code") [(vS "is_whole" 243), (vS "is_whole" 244), (vS "/claim/cut.py" 245), (vI (10) 0), (vI (1) 0), (vI (0) 0), (vI (0) 0), (vI (3) 0), (vR 52), (.bool true), (vI (181) 0), (vR 53), vN, (vR 54), (vR 55), (vR 56), (vI (247) 0), (vI (10) 0), (vS "/claim/cut.py" 248)]
def o58 : Obj := oU (vT "function") "is_whole" "is_whole" (topS 6) 3 [] vN vN (vS "curveseal.octets" 239) none (vR 57) vN 0 []
def o59 : Obj := oT []
def o60 : Obj := oF vN []
def o61 : Obj := oU vN "to_little" "to_little" (topS 7) 0 [] vN vN vN none vN vN 0 []
def o62 : Obj := oF (vT "code") [(vS "to_little" 250), (vS "to_little" 251), (vS "/claim/cut.py" 252), (vI (12) 0), (vI (2) 0), (vI (0) 0), (vI (0) 0), (vI (3) 0), (vR 59), (.bool true), (vI (181) 0), (vR 60), vN, vN, vN, (vR 61), (vI (253) 0), (vI (12) 0), (vS "/claim/cut.py" 254)]
def o63 : Obj := oU (vT "function") "to_little" "to_little" (topS 7) 3 [] vN vN (vS "curveseal.octets" 239) none (vR 62) vN 0 []
def o64 : Obj := oT []
def o65 : Obj := oF vN []
def o66 : Obj := oT [(vS "number" 259), (vS "size" 260)]
def o67 : Obj := oT []
def o68 : Obj := oU vN "to_big" "to_big" (topS 8) 0 [] vN vN vN none vN vN 0 []
def o69 : Obj := oF (vT "code") [(vS "to_big" 256), (vS "to_big" 257), (vS "/claim/cut.py" 258), (vI (16) 0), (vI (2) 0), (vI (0) 0), (vI (0) 0), (vI (3) 0), (vR 64), (.bool true), (vI (181) 0), (vR 65), vN, (vR 66), (vR 67), (vR 68), (vI (261) 0), (vI (16) 0), (vS "/claim/cut.py" 262)]
def o70 : Obj := oU (vT "function") "to_big" "to_big" (topS 8) 3 [] vN vN (vS "curveseal.octets" 239) none (vR 69) vN 0 []
def o71 : Obj := oT []
def o72 : Obj := oF vN []
def o73 : Obj := oU vN "is_bytes" "is_bytes" (topS 9) 0 [] vN vN vN none vN vN 0 []
def o74 : Obj := oF (vT "code") [(vS "is_bytes" 264), (vS "is_bytes" 265), (vS "/claim/cut.py" 266), (vI (18) 0), (vI (1) 0), (vI (0) 0), (vI (0) 0), (vI (3) 0), (vR 71), (.bool true), (vI (181) 0), (vR 72), vN, vN, vN, (vR 73), (vI (267) 0), (vI (18) 0), (vS "/claim/cut.py" 268)]
def o75 : Obj := oU (vT "function") "is_bytes" "is_bytes" (topS 9) 3 [] vN vN (vS "curveseal.octets" 239) none (vR 74) vN 0 []
def o76 : Obj := oT []
def o77 : Obj := oF vN []
def o78 : Obj := oU vN "ascii_codes" "ascii_codes" (topS 10) 0 [] vN vN vN none vN vN 0 []
def o79 : Obj := oF (vT "code") [(vS "ascii_codes" 270), (vS "ascii_codes" 271), (vS "/claim/cut.py" 272), (vI (20) 0), (vI (1) 0), (vI (0) 0), (vI (0) 0), (vI (3) 0), (vR 76), (.bool true), (vI (181) 0), (vR 77), vN, vN, vN, (vR 78), (vI (273) 0), (vI (20) 0), (vS "/claim/cut.py" 274)]
def o80 : Obj := oU (vT "function") "ascii_codes" "ascii_codes" (topS 10) 3 [] vN vN (vS "curveseal.octets" 239) none (vR 79) vN 0 []
def o81 : Obj := oT [(vS "" 286), (vS "a" 287), (vS "s" 288), (vS "w" 289), (vS "as" 290), (vS "aw" 291), (vS "sw" 292), (vS "asw" 293)]
def o82 : Obj := oT []
def o83 : Obj := oF vN []
def o84 : Obj := oT [(vS "value" 304), (vS "kind" 305), (vS "author" 306), (vS "body" 307), (vS "signature" 308)]
def o85 : Obj := oT []
def o86 : Obj := oU vN "is_entry" "is_entry" (topS 20) 0 [] vN vN vN none vN vN 0 []
def o87 : Obj := oF (vT "code") [(vS "is_entry" 301), (vS "is_entry" 302), (vS "/claim/cut.py" 303), (vI (35) 0), (vI (1) 0), (vI (0) 0), (vI (0) 0), (vI (3) 0), (vR 82), (.bool true), (vI (181) 0), (vR 83), vN, (vR 84), (vR 85), (vR 86), (vI (309) 0), (vI (35) 0), (vS "/claim/cut.py" 310)]
def o88 : Obj := oU (vT "function") "is_entry" "is_entry" (topS 20) 3 [] vN vN (vS "curveseal.entries" 276) none (vR 87) vN 0 []
def o89 : Obj := oT []
def o90 : Obj := oF vN []
def o91 : Obj := oT [(vS "kind" 315), (vS "body" 316)]
def o92 : Obj := oT []
def o93 : Obj := oU vN "_is_body" "_is_body" (topS 21) 0 [] vN vN vN none vN vN 0 []
def o94 : Obj := oF (vT "code") [(vS "_is_body" 312), (vS "_is_body" 313), (vS "/claim/cut.py" 314), (vI (42) 0), (vI (2) 0), (vI (0) 0), (vI (0) 0), (vI (3) 0), (vR 89), (.bool true), (vI (181) 0), (vR 90), vN, (vR 91), (vR 92), (vR 93), (vI (317) 0), (vI (42) 0), (vS "/claim/cut.py" 318)]
def o95 : Obj := oU (vT "function") "_is_body" "_is_body" (topS 21) 3 [] vN vN (vS "curveseal.entries" 276) none (vR 94) vN 0 []
def o96 : Obj := oT []
def o97 : Obj := oF vN []
def o98 : Obj := oT [(vS "value" 323), (vS "longest" 324)]
def o99 : Obj := oT []
def o100 : Obj := oU vN "_is_byte_tuple" "_is_byte_tuple" (topS 22) 0 [] vN vN vN none vN vN 0 []
def o101 : Obj := oF (vT "code") [(vS "_is_byte_tuple" 320), (vS "_is_byte_tuple" 321), (vS "/claim/cut.py" 322), (vI (50) 0), (vI (2) 0), (vI (0) 0), (vI (0) 0), (vI (3) 0), (vR 96), (.bool true), (vI (181) 0), (vR 97), vN, (vR 98), (vR 99), (vR 100), (vI (325) 0), (vI (50) 0), (vS "/claim/cut.py" 326)]
def o102 : Obj := oU (vT "function") "_is_byte_tuple" "_is_byte_tuple" (topS 22) 3 [] vN vN (vS "curveseal.entries" 276) none (vR 101) vN 0 []
def o103 : Obj := oT []
def o104 : Obj := oF vN []
def o105 : Obj := oT [(vS "value" 331)]
def o106 : Obj := oT []
def o107 : Obj := oU vN "_is_text" "_is_text" (topS 23) 0 [] vN vN vN none vN vN 0 []
def o108 : Obj := oF (vT "code") [(vS "_is_text" 328), (vS "_is_text" 329), (vS "/claim/cut.py" 330), (vI (52) 0), (vI (1) 0), (vI (0) 0), (vI (0) 0), (vI (3) 0), (vR 103), (.bool true), (vI (181) 0), (vR 104), vN, (vR 105), (vR 106), (vR 107), (vI (332) 0), (vI (52) 0), (vS "/claim/cut.py" 333)]
def o109 : Obj := oU (vT "function") "_is_text" "_is_text" (topS 23) 3 [] vN vN (vS "curveseal.entries" 276) none (vR 108) vN 0 []
def o110 : Obj := oT []
def o111 : Obj := oF vN []
def o112 : Obj := oU vN "pack" "pack" (topS 24) 0 [] vN vN vN none vN vN 0 []
def o113 : Obj := oF (vT "code") [(vS "pack" 335), (vS "pack" 336), (vS "/claim/cut.py" 337), (vI (60) 0), (vI (1) 0), (vI (0) 0), (vI (0) 0), (vI (3) 0), (vR 110), (.bool true), (vI (181) 0), (vR 111), vN, vN, vN, (vR 112), (vI (338) 0), (vI (60) 0), (vS "/claim/cut.py" 339)]
def o114 : Obj := oU (vT "function") "pack" "pack" (topS 24) 3 [] vN vN (vS "curveseal.entries" 276) none (vR 113) vN 0 []
def o115 : Obj := oT []
def o116 : Obj := oF vN []
def o117 : Obj := oT [(vS "script" 346), (vS "k" 347)]
def o118 : Obj := oT []
def o119 : Obj := oU vN "_law_cell" "_law_cell" (topS 26) 0 [] vN vN vN none vN vN 0 []
def o120 : Obj := oF (vT "code") [(vS "_law_cell" 343), (vS "_law_cell" 344), (vS "/claim/cut.py" 345), (vI (63) 0), (vI (2) 0), (vI (0) 0), (vI (0) 0), (vI (3) 0), (vR 115), (.bool true), (vI (181) 0), (vR 116), vN, (vR 117), (vR 118), (vR 119), (vI (348) 0), (vI (63) 0), (vS "/claim/cut.py" 349)]
def o121 : Obj := oU (vT "function") "_law_cell" "_law_cell" (topS 26) 3 [] vN vN (vS "law_curveseal_k65_entries" 341) none (vR 120) vN 0 []
def o122 : Obj := oT []
def o123 : Obj := oF vN []
def o124 : Obj := oT [(vS "cell" 354), (vS "k" 355), (vS "x" 356)]
def o125 : Obj := oT []
def o126 : Obj := oU vN "_law_twice" "_law_twice" (topS 27) 0 [] vN vN vN none vN vN 0 []
def o127 : Obj := oF (vT "code") [(vS "_law_twice" 351), (vS "_law_twice" 352), (vS "/claim/cut.py" 353), (vI (67) 0), (vI (2) 0), (vI (0) 0), (vI (0) 0), (vI (3) 0), (vR 122), (.bool true), (vI (181) 0), (vR 123), vN, (vR 124), (vR 125), (vR 126), (vI (357) 0), (vI (67) 0), (vS "/claim/cut.py" 358)]
def o128 : Obj := oU (vT "function") "_law_twice" "_law_twice" (topS 27) 3 [] vN vN (vS "law_curveseal_k65_entries" 341) none (vR 127) vN 0 []
def o129 : Obj := oT []
def o130 : Obj := oF vN []
def o131 : Obj := oT [(vS "cell" 363), (vS "size" 364), (vS "left" 365), (vS "great" 366), (vS "data" 367), (vS "k" 368)]
def o132 : Obj := oT []
def o133 : Obj := oU vN "_law_bytes" "_law_bytes" (topS 28) 0 [] vN vN vN none vN vN 0 []
def o134 : Obj := oF (vT "code") [(vS "_law_bytes" 360), (vS "_law_bytes" 361), (vS "/claim/cut.py" 362), (vI (72) 0), (vI (2) 0), (vI (0) 0), (vI (0) 0), (vI (3) 0), (vR 129), (.bool true), (vI (181) 0), (vR 130), vN, (vR 131), (vR 132), (vR 133), (vI (369) 0), (vI (72) 0), (vS "/claim/cut.py" 370)]
def o135 : Obj := oU (vT "function") "_law_bytes" "_law_bytes" (topS 28) 3 [] vN vN (vS "law_curveseal_k65_entries" 341) none (vR 134) vN 0 []
def o136 : Obj := oT []
def o137 : Obj := oF vN []
def o138 : Obj := oT [(vS "x" 375)]
def o139 : Obj := oT []
def o140 : Obj := oU vN "_law_integer" "_law_integer" (topS 29) 0 [] vN vN vN none vN vN 0 []
def o141 : Obj := oF (vT "code") [(vS "_law_integer" 372), (vS "_law_integer" 373), (vS "/claim/cut.py" 374), (vI (83) 0), (vI (1) 0), (vI (0) 0), (vI (0) 0), (vI (3) 0), (vR 136), (.bool true), (vI (181) 0), (vR 137), vN, (vR 138), (vR 139), (vR 140), (vI (376) 0), (vI (83) 0), (vS "/claim/cut.py" 377)]
def o142 : Obj := oU (vT "function") "_law_integer" "_law_integer" (topS 29) 3 [] vN vN (vS "law_curveseal_k65_entries" 341) none (vR 141) vN 0 []
def o143 : Obj := oT []
def o144 : Obj := oF vN []
def o145 : Obj := oT [(vS "found" 382), (vS "due" 383), (vS "one" 384), (vS "other" 385)]
def o146 : Obj := oT []
def o147 : Obj := oU vN "_law_is_list" "_law_is_list" (topS 30) 0 [] vN vN vN none vN vN 0 []
def o148 : Obj := oF (vT "code") [(vS "_law_is_list" 379), (vS "_law_is_list" 380), (vS "/claim/cut.py" 381), (vI (85) 0), (vI (2) 0), (vI (0) 0), (vI (0) 0), (vI (3) 0), (vR 143), (.bool true), (vI (181) 0), (vR 144), vN, (vR 145), (vR 146), (vR 147), (vI (386) 0), (vI (85) 0), (vS "/claim/cut.py" 387)]
def o149 : Obj := oU (vT "function") "_law_is_list" "_law_is_list" (topS 30) 3 [] vN vN (vS "law_curveseal_k65_entries" 341) none (vR 148) vN 0 []
def o150 : Obj := oT []
def o151 : Obj := oF vN []
def o152 : Obj := oT [(vS "cell" 392), (vS "texts" 393)]
def o153 : Obj := oT []
def o154 : Obj := oU vN "_law_text" "_law_text" (topS 31) 0 [] vN vN vN none vN vN 0 []
def o155 : Obj := oF (vT "code") [(vS "_law_text" 389), (vS "_law_text" 390), (vS "/claim/cut.py" 391), (vI (92) 0), (vI (1) 0), (vI (0) 0), (vI (0) 0), (vI (3) 0), (vR 150), (.bool true), (vI (181) 0), (vR 151), vN, (vR 152), (vR 153), (vR 154), (vI (394) 0), (vI (92) 0), (vS "/claim/cut.py" 395)]
def o156 : Obj := oU (vT "function") "_law_text" "_law_text" (topS 31) 3 [] vN vN (vS "law_curveseal_k65_entries" 341) none (vR 155) vN 0 []
def o157 : Obj := oT []
def o158 : Obj := oF vN []
def o159 : Obj := oT [(vS "cell" 400), (vS "most" 401), (vS "size" 402), (vS "data" 403)]
def o160 : Obj := oT []
def o161 : Obj := oU vN "_law_data" "_law_data" (topS 32) 0 [] vN vN vN none vN vN 0 []
def o162 : Obj := oF (vT "code") [(vS "_law_data" 397), (vS "_law_data" 398), (vS "/claim/cut.py" 399), (vI (97) 0), (vI (2) 0), (vI (0) 0), (vI (0) 0), (vI (3) 0), (vR 157), (.bool true), (vI (181) 0), (vR 158), vN, (vR 159), (vR 160), (vR 161), (vI (404) 0), (vI (97) 0), (vS "/claim/cut.py" 405)]
def o163 : Obj := oU (vT "function") "_law_data" "_law_data" (topS 32) 3 [] vN vN (vS "law_curveseal_k65_entries" 341) none (vR 162) vN 0 []
def o164 : Obj := oT []
def o165 : Obj := oF vN []
def o166 : Obj := oT [(vS "cell" 410)]
def o167 : Obj := oT []
def o168 : Obj := oU vN "_law_rights" "_law_rights" (topS 33) 0 [] vN vN vN none vN vN 0 []
def o169 : Obj := oF (vT "code") [(vS "_law_rights" 407), (vS "_law_rights" 408), (vS "/claim/cut.py" 409), (vI (103) 0), (vI (1) 0), (vI (0) 0), (vI (0) 0), (vI (3) 0), (vR 164), (.bool true), (vI (181) 0), (vR 165), vN, (vR 166), (vR 167), (vR 168), (vI (411) 0), (vI (103) 0), (vS "/claim/cut.py" 412)]
def o170 : Obj := oU (vT "function") "_law_rights" "_law_rights" (topS 33) 3 [] vN vN (vS "law_curveseal_k65_entries" 341) none (vR 169) vN 0 []
def o171 : Obj := oT []
def o172 : Obj := oF vN []
def o173 : Obj := oT [(vS "kind" 417), (vS "cell" 418)]
def o174 : Obj := oT []
def o175 : Obj := oU vN "_law_body" "_law_body" (topS 34) 0 [] vN vN vN none vN vN 0 []
def o176 : Obj := oF (vT "code") [(vS "_law_body" 414), (vS "_law_body" 415), (vS "/claim/cut.py" 416), (vI (105) 0), (vI (2) 0), (vI (0) 0), (vI (0) 0), (vI (3) 0), (vR 171), (.bool true), (vI (181) 0), (vR 172), vN, (vR 173), (vR 174), (vR 175), (vI (419) 0), (vI (105) 0), (vS "/claim/cut.py" 420)]
def o177 : Obj := oU (vT "function") "_law_body" "_law_body" (topS 34) 3 [] vN vN (vS "law_curveseal_k65_entries" 341) none (vR 176) vN 0 []
def o178 : Obj := oT []
def o179 : Obj := oF vN []
def o180 : Obj := oT [(vS "cell" 425)]
def o181 : Obj := oT []
def o182 : Obj := oU vN "_law_other" "_law_other" (topS 35) 0 [] vN vN vN none vN vN 0 []
def o183 : Obj := oF (vT "code") [(vS "_law_other" 422), (vS "_law_other" 423), (vS "/claim/cut.py" 424), (vI (113) 0), (vI (1) 0), (vI (0) 0), (vI (0) 0), (vI (3) 0), (vR 178), (.bool true), (vI (181) 0), (vR 179), vN, (vR 180), (vR 181), (vR 182), (vI (426) 0), (vI (113) 0), (vS "/claim/cut.py" 427)]
def o184 : Obj := oU (vT "function") "_law_other" "_law_other" (topS 35) 3 [] vN vN (vS "law_curveseal_k65_entries" 341) none (vR 183) vN 0 []
def o185 : Obj := oT []
def o186 : Obj := oF vN []
def o187 : Obj := oT [(vS "script" 432), (vS "k" 433), (vS "cell" 434), (vS "kind" 435), (vS "body" 436), (vS "value" 437), (vS "how" 438)]
def o188 : Obj := oT []
def o189 : Obj := oU vN "_law_value" "_law_value" (topS 36) 0 [] vN vN vN none vN vN 0 []
def o190 : Obj := oF (vT "code") [(vS "_law_value" 429), (vS "_law_value" 430), (vS "/claim/cut.py" 431), (vI (115) 0), (vI (2) 0), (vI (0) 0), (vI (0) 0), (vI (3) 0), (vR 185), (.bool true), (vI (181) 0), (vR 186), vN, (vR 187), (vR 188), (vR 189), (vI (439) 0), (vI (115) 0), (vS "/claim/cut.py" 440)]
def o191 : Obj := oU (vT "function") "_law_value" "_law_value" (topS 36) 3 [] vN vN (vS "law_curveseal_k65_entries" 341) none (vR 190) vN 0 []
def o192 : Obj := oT []
def o193 : Obj := oF vN []
def o194 : Obj := oT [(vS "value" 445), (vS "sign" 446)]
def o195 : Obj := oT []
def o196 : Obj := oU vN "_law_is_text" "_law_is_text" (topS 37) 0 [] vN vN vN none vN vN 0 []
def o197 : Obj := oF (vT "code") [(vS "_law_is_text" 442), (vS "_law_is_text" 443), (vS "/claim/cut.py" 444), (vI (134) 0), (vI (1) 0), (vI (0) 0), (vI (0) 0), (vI (3) 0), (vR 192), (.bool true), (vI (181) 0), (vR 193), vN, (vR 194), (vR 195), (vR 196), (vI (447) 0), (vI (134) 0), (vS "/claim/cut.py" 448)]
def o198 : Obj := oU (vT "function") "_law_is_text" "_law_is_text" (topS 37) 3 [] vN vN (vS "law_curveseal_k65_entries" 341) none (vR 197) vN 0 []
def o199 : Obj := oT []
def o200 : Obj := oF vN []
def o201 : Obj := oT [(vS "value" 453), (vS "most" 454), (vS "byte" 455)]
def o202 : Obj := oT []
def o203 : Obj := oU vN "_law_is_data" "_law_is_data" (topS 38) 0 [] vN vN vN none vN vN 0 []
def o204 : Obj := oF (vT "code") [(vS "_law_is_data" 450), (vS "_law_is_data" 451), (vS "/claim/cut.py" 452), (vI (141) 0), (vI (2) 0), (vI (0) 0), (vI (0) 0), (vI (3) 0), (vR 199), (.bool true), (vI (181) 0), (vR 200), vN, (vR 201), (vR 202), (vR 203), (vI (456) 0), (vI (141) 0), (vS "/claim/cut.py" 457)]
def o205 : Obj := oU (vT "function") "_law_is_data" "_law_is_data" (topS 38) 3 [] vN vN (vS "law_curveseal_k65_entries" 341) none (vR 204) vN 0 []
def o206 : Obj := oT []
def o207 : Obj := oF vN []
def o208 : Obj := oT [(vS "kind" 462), (vS "body" 463)]
def o209 : Obj := oT []
def o210 : Obj := oU vN "_law_is_body" "_law_is_body" (topS 39) 0 [] vN vN vN none vN vN 0 []
def o211 : Obj := oF (vT "code") [(vS "_law_is_body" 459), (vS "_law_is_body" 460), (vS "/claim/cut.py" 461), (vI (148) 0), (vI (2) 0), (vI (0) 0), (vI (0) 0), (vI (3) 0), (vR 206), (.bool true), (vI (181) 0), (vR 207), vN, (vR 208), (vR 209), (vR 210), (vI (464) 0), (vI (148) 0), (vS "/claim/cut.py" 465)]
def o212 : Obj := oU (vT "function") "_law_is_body" "_law_is_body" (topS 39) 3 [] vN vN (vS "law_curveseal_k65_entries" 341) none (vR 211) vN 0 []
def o213 : Obj := oT []
def o214 : Obj := oF vN []
def o215 : Obj := oT [(vS "value" 470), (vS "kinds" 471)]
def o216 : Obj := oT []
def o217 : Obj := oU vN "_law_due" "_law_due" (topS 40) 0 [] vN vN vN none vN vN 0 []
def o218 : Obj := oF (vT "code") [(vS "_law_due" 467), (vS "_law_due" 468), (vS "/claim/cut.py" 469), (vI (158) 0), (vI (1) 0), (vI (0) 0), (vI (0) 0), (vI (3) 0), (vR 213), (.bool true), (vI (181) 0), (vR 214), vN, (vR 215), (vR 216), (vR 217), (vI (472) 0), (vI (158) 0), (vS "/claim/cut.py" 473)]
def o219 : Obj := oU (vT "function") "_law_due" "_law_due" (topS 40) 3 [] vN vN (vS "law_curveseal_k65_entries" 341) none (vR 218) vN 0 []
def o220 : Obj := oT []
def o221 : Obj := oF vN []
def o222 : Obj := oT [(vS "parts" 478), (vS "data" 479), (vS "part" 480)]
def o223 : Obj := oT []
def o224 : Obj := oU vN "_law_pack" "_law_pack" (topS 41) 0 [] vN vN vN none vN vN 0 []
def o225 : Obj := oF (vT "code") [(vS "_law_pack" 475), (vS "_law_pack" 476), (vS "/claim/cut.py" 477), (vI (165) 0), (vI (1) 0), (vI (0) 0), (vI (0) 0), (vI (3) 0), (vR 220), (.bool true), (vI (181) 0), (vR 221), vN, (vR 222), (vR 223), (vR 224), (vI (481) 0), (vI (165) 0), (vS "/claim/cut.py" 482)]
def o226 : Obj := oU (vT "function") "_law_pack" "_law_pack" (topS 41) 3 [] vN vN (vS "law_curveseal_k65_entries" 341) none (vR 225) vN 0 []
def o227 : Obj := oT []
def o228 : Obj := oF vN []
def o229 : Obj := oU vN "law" "law" (topS 42) 0 [] vN vN vN none vN vN 0 []
def o230 : Obj := oF (vT "code") [(vS "law" 484), (vS "law" 485), (vS "/claim/cut.py" 486), (vI (170) 0), (vI (1) 0), (vI (0) 0), (vI (0) 0), (vI (3) 0), (vR 227), (.bool true), (vI (181) 0), (vR 228), vN, vN, vN, (vR 229), (vI (487) 0), (vI (170) 0), (vS "/claim/cut.py" 488)]
def o231 : Obj := oU (vT "function") "law" "law" (topS 42) 3 [] vN vN (vS "law_curveseal_k65_entries" 341) none (vR 230) vN 0 []
def b0_0 (w : World) : List Obj := [o0 w, o1 w, o2 w, o3 w, o4, o5, o6 w, o7, o8, o9, o10]
def S_x (w : World) : SharedT := ⟨trF 16 (b0_0 w), 11, {}, #[], {}, 181, {}⟩
def b0_1 (w : World) : List Obj := [o0 w, o1 w, o2 w, o3 w, o4, o5, o6 w, o7, o8, o9, o10, o11, o12, o13, o14]
def S_s (w : World) : SharedT := ⟨trF 16 (b0_1 w), 15, {}, #[], {}, 187, {}⟩
def b0_2 (w : World) : List Obj := [o0 w, o1 w, o2 w, o3_1 w, o4, o5, o6 w, o7, o8, o9, o10, o11, o12_1, o13, o14, o15, o16, o17 w, o18, o19, o20, o21, o22, o23 w, o24, o25, o26, o27, o28, o29, o30 w, o31, o32, o33, o34, o35, o36 w, o37, o38, o39]
def b1_2 (w : World) : List Obj := [o40, o41, o42 w, o43, o44, o45, o46, o47, o48 w, o49, o50, o51, o52, o53, o54, o55, o56, o57, o58, o59, o60, o61, o62, o63, o64, o65, o66, o67, o68, o69, o70, o71, o72, o73, o74, o75, o76, o77, o78, o79]
def b2_2 (w : World) : List Obj := [o80, o81, o82, o83, o84, o85, o86, o87, o88, o89, o90, o91, o92, o93, o94, o95, o96, o97, o98, o99, o100, o101, o102, o103, o104, o105, o106, o107, o108, o109, o110, o111, o112, o113, o114, o115, o116, o117, o118, o119]
def b3_2 (w : World) : List Obj := [o120, o121, o122, o123, o124, o125, o126, o127, o128, o129, o130, o131, o132, o133, o134, o135, o136, o137, o138, o139, o140, o141, o142, o143, o144, o145, o146, o147, o148, o149, o150, o151, o152, o153, o154, o155, o156, o157, o158, o159]
def b4_2 (w : World) : List Obj := [o160, o161, o162, o163, o164, o165, o166, o167, o168, o169, o170, o171, o172, o173, o174, o175, o176, o177, o178, o179, o180, o181, o182, o183, o184, o185, o186, o187, o188, o189, o190, o191, o192, o193, o194, o195, o196, o197, o198, o199]
def b5_2 (w : World) : List Obj := [o200, o201, o202, o203, o204, o205, o206, o207, o208, o209, o210, o211, o212, o213, o214, o215, o216, o217, o218, o219, o220, o221, o222, o223, o224, o225, o226, o227, o228, o229, o230, o231]
def S_p0 (w : World) : SharedT := ⟨trF 16 (b0_2 w ++ (b1_2 w ++ (b2_2 w ++ (b3_2 w ++ (b4_2 w ++ (b5_2 w)))))), 232, {}, #[], {}, 490, {}⟩
def S_f (w : World) : SharedT := ⟨trF 16 (b0_2 w ++ (b1_2 w ++ (b2_2 w ++ (b3_2 w ++ (b4_2 w ++ (b5_2 w)))))), 232, {}, #[], {}, 490, {}⟩
abbrev annP : Option Value := (some (vR 6))
def envP : Env := envT Rw.prog (vR 13) 14
def codP : Code := .body (behindTheImports Rw.prog) envP
abbrev stkP : List Frame := frT1 (.builtin "claim.caller" {}) ⟨0, 0, 0, 0⟩
def cutP (a b : Nat) : List Stmt := ((behindTheImports Rw.prog).drop a).take (b - a)
def L_x (w : World) : List Obj := [o0 w, o1 w, o2 w, o3 w, o4, o5, o6 w, o7, o8, o9, o10]
theorem op_ (w : World) : openQ w 20000000 Rw.prog = some (L_x w, (S_x w).life, (S_x w).gens, (S_x w).drawn, (S_x w).toks, (S_x w).os) := by
  kernel_rfl
theorem xl_ (w : World) : (S_x w).abs.heap.objs.toList = L_x w := by
  kernel_rfl
theorem xg_ (w : World) : ((S_x w).abs.heap.isNs mainGlobals && (S_x w).abs.gens.size == 0) = true := by
  kernel_rfl
theorem xn_ (w : World) : (S_x w).abs.heap.objs.size = 11 := by
  kernel_rfl
theorem xa_ (w : World) : (S_x w).abs.heap.nsMap mainGlobals "__annotations__" = annP := by
  kernel_rfl
theorem st_ (w : World) : startB (stQ Rw.prog w) 11 annP Rw.prog (S_x w) = some (S_s w, (vR 13), 14, .builtin "claim.caller" {}, ⟨0, 0, 0, 0⟩, codP, ⟨0, 0, 0, 0⟩) := by
  kernel_rfl
theorem pc_p0_f (w : World) : sgRun (stQ Rw.prog (w.withFollow "special-get-raises" false)) 11 annP stkP.length 40000 (S_s (w.withFollow "special-get-raises" false)) ⟨(execs (cutP 0 43) envP).wrap (fun f => .pure (.done (id f))) deadEnd id id, codP, ⟨0, 0, 0, 0⟩, stkP⟩ = some (.next, S_p0 (w.withFollow "special-get-raises" false), codP, ⟨170, 0, 184, 73⟩) := by
  kernel_rfl
theorem pc_p0_t (w : World) : sgRun (stQ Rw.prog (w.withFollow "special-get-raises" true)) 11 annP stkP.length 40000 (S_s (w.withFollow "special-get-raises" true)) ⟨(execs (cutP 0 43) envP).wrap (fun f => .pure (.done (id f))) deadEnd id id, codP, ⟨0, 0, 0, 0⟩, stkP⟩ = some (.next, S_p0 (w.withFollow "special-get-raises" true), codP, ⟨170, 0, 184, 73⟩) := by
  kernel_rfl
theorem pc_p0 (w : World) : sgRun (stQ Rw.prog w) 11 annP stkP.length 40000 (S_s w) ⟨(execs (cutP 0 43) envP).wrap (fun f => .pure (.done (id f))) deadEnd id id, codP, ⟨0, 0, 0, 0⟩, stkP⟩ = some (.next, S_p0 w, codP, ⟨170, 0, 184, 73⟩) := PySem.W.byRow2 (P := fun w => sgRun (stQ Rw.prog w) 11 annP stkP.length 40000 (S_s w) ⟨(execs (cutP 0 43) envP).wrap (fun f => .pure (.done (id f))) deadEnd id id, codP, ⟨0, 0, 0, 0⟩, stkP⟩ = some (.next, S_p0 w, codP, ⟨170, 0, 184, 73⟩)) "special-get-raises" pc_p0_f pc_p0_t w
theorem fin_ (w : World) : goF (stQ Rw.prog w) 11 annP 40000 (S_p0 w) ⟨(execs [] envP).wrap doneF (leaveH envP) id id, codP, ⟨170, 0, 184, 73⟩, stkP⟩ = some (S_f w) := by
  kernel_rfl
theorem body_ : behindTheImports Rw.prog = (cutP 0 43 ++ []) := by
  kernel_rfl
theorem runp_ (w : World) : RunP Rw.prog w 11 annP envP stkP (cutP 0 43 ++ []) (S_s w) codP ⟨0, 0, 0, 0⟩ (40000 + (40000)) (S_f w) :=
  runP_app rfl (pc_p0 w) (runP_nil (fin_ w))
theorem runw_ (w : World) : RunW Rw.prog w 20000000 (fuelT + (fuelT + (1 + (fuelT + (40000 + (40000)))))) (S_x w) (S_f w) := runW_of (op_ w) (xl_ w) (xg_ w) (xn_ w) (xa_ w) (st_ w) (body_ ▸ runp_ w)
theorem lk1_ (w : World) : HandSHeadRun.looksF Rw.prog (S_x w).abs.heap (S_f w).abs = true := by
  kernel_rfl
theorem lk2_ (w : World) : HandSHeadRun.seenQ (PySem.W.view Rw.prog [42]) ((["is_whole", "to_little", "to_big", "is_bytes", "ascii_codes", "is_entry", "_is_body", "_is_byte_tuple", "_is_text", "pack", "_law_cell", "_law_twice", "_law_bytes", "_law_integer", "_law_is_list", "_law_text", "_law_data", "_law_rights", "_law_body", "_law_other", "_law_value", "_law_is_text", "_law_is_data", "_law_is_body", "_law_due"] : List Str) ++ (["_law_pack", "CurveError", "OutOfRange", "Malformed", "PERCENT", "STATE", "ADMIT", "REPLACE", "WITHDRAW", "RIGHTS", "LONGEST_TEXT", "LONGEST_DATA", "LONGEST_SIGNATURE"] : List Str)) (importedModules Rw.prog.main.body) (fun s => xlAt (PySem.W.view Rw.prog [42]) [] s && recOk Rw.toRowW.records s) (S_f w).abs = PySem.W.openGood (PySem.W.view Rw.prog [42]) ((["is_whole", "to_little", "to_big", "is_bytes", "ascii_codes", "is_entry", "_is_body", "_is_byte_tuple", "_is_text", "pack", "_law_cell", "_law_twice", "_law_bytes", "_law_integer", "_law_is_list", "_law_text", "_law_data", "_law_rights", "_law_body", "_law_other", "_law_value", "_law_is_text", "_law_is_data", "_law_is_body", "_law_due"] : List Str) ++ (["_law_pack", "CurveError", "OutOfRange", "Malformed", "PERCENT", "STATE", "ADMIT", "REPLACE", "WITHDRAW", "RIGHTS", "LONGEST_TEXT", "LONGEST_DATA", "LONGEST_SIGNATURE"] : List Str)) := by
  kernel_rfl
theorem lk3_ (w : World) : ob (S_f w) = hk.val w := by
  kernel_rfl
abbrev fuelQ : Nat := fuelT + (fuelT + (1 + (fuelT + (40000 + (40000)))))
end
abbrev FnP (K : PySem.W.Frag) (x q : Str) (st : Stmt) (f : Addr) (fd : FuncData) : Prop := FunD K x q (defArgs st) (defBody st) (defScope st) [] [] f fd
abbrev FnPk (kws : List (Str × V)) (K : PySem.W.Frag) (x q : Str) (st : Stmt) (f : Addr) (fd : FuncData) : Prop := FunD K x q (defArgs st) (defBody st) (defScope st) [] kws f fd
structure Facts (P : Program) (w : World) (K : PySem.W.Frag) (mg : Str → Option Value) : Prop where
  d_is_whole : ∃ fd, FnP K "is_whole" "is_whole" s_is_whole (He.ga K "is_whole") fd
  g_is_whole : mg "is_whole" = some (.ref (He.ga K "is_whole"))
  d_to_little : ∃ fd, FnP K "to_little" "to_little" s_to_little (He.ga K "to_little") fd
  g_to_little : mg "to_little" = some (.ref (He.ga K "to_little"))
  d_to_big : ∃ fd, FnP K "to_big" "to_big" s_to_big (He.ga K "to_big") fd
  g_to_big : mg "to_big" = some (.ref (He.ga K "to_big"))
  d_is_bytes : ∃ fd, FnP K "is_bytes" "is_bytes" s_is_bytes (He.ga K "is_bytes") fd
  g_is_bytes : mg "is_bytes" = some (.ref (He.ga K "is_bytes"))
  d_ascii_codes : ∃ fd, FnP K "ascii_codes" "ascii_codes" s_ascii_codes (He.ga K "ascii_codes") fd
  g_ascii_codes : mg "ascii_codes" = some (.ref (He.ga K "ascii_codes"))
  d_is_entry : ∃ fd, FnP K "is_entry" "is_entry" s_is_entry (He.ga K "is_entry") fd
  g_is_entry : mg "is_entry" = some (.ref (He.ga K "is_entry"))
  d_u_is_body : ∃ fd, FnP K "_is_body" "_is_body" s_u_is_body (He.ga K "_is_body") fd
  g_u_is_body : mg "_is_body" = some (.ref (He.ga K "_is_body"))
  d_u_is_byte_tuple : ∃ fd, FnP K "_is_byte_tuple" "_is_byte_tuple" s_u_is_byte_tuple (He.ga K "_is_byte_tuple") fd
  g_u_is_byte_tuple : mg "_is_byte_tuple" = some (.ref (He.ga K "_is_byte_tuple"))
  d_u_is_text : ∃ fd, FnP K "_is_text" "_is_text" s_u_is_text (He.ga K "_is_text") fd
  g_u_is_text : mg "_is_text" = some (.ref (He.ga K "_is_text"))
  d_pack : ∃ fd, FnP K "pack" "pack" s_pack (He.ga K "pack") fd
  g_pack : mg "pack" = some (.ref (He.ga K "pack"))
  d_u_law_cell : ∃ fd, FnP K "_law_cell" "_law_cell" s_u_law_cell (He.ga K "_law_cell") fd
  g_u_law_cell : mg "_law_cell" = some (.ref (He.ga K "_law_cell"))
  d_u_law_twice : ∃ fd, FnP K "_law_twice" "_law_twice" s_u_law_twice (He.ga K "_law_twice") fd
  g_u_law_twice : mg "_law_twice" = some (.ref (He.ga K "_law_twice"))
  d_u_law_bytes : ∃ fd, FnP K "_law_bytes" "_law_bytes" s_u_law_bytes (He.ga K "_law_bytes") fd
  g_u_law_bytes : mg "_law_bytes" = some (.ref (He.ga K "_law_bytes"))
  d_u_law_integer : ∃ fd, FnP K "_law_integer" "_law_integer" s_u_law_integer (He.ga K "_law_integer") fd
  g_u_law_integer : mg "_law_integer" = some (.ref (He.ga K "_law_integer"))
  d_u_law_is_list : ∃ fd, FnP K "_law_is_list" "_law_is_list" s_u_law_is_list (He.ga K "_law_is_list") fd
  g_u_law_is_list : mg "_law_is_list" = some (.ref (He.ga K "_law_is_list"))
  d_u_law_text : ∃ fd, FnP K "_law_text" "_law_text" s_u_law_text (He.ga K "_law_text") fd
  g_u_law_text : mg "_law_text" = some (.ref (He.ga K "_law_text"))
  d_u_law_data : ∃ fd, FnP K "_law_data" "_law_data" s_u_law_data (He.ga K "_law_data") fd
  g_u_law_data : mg "_law_data" = some (.ref (He.ga K "_law_data"))
  d_u_law_rights : ∃ fd, FnP K "_law_rights" "_law_rights" s_u_law_rights (He.ga K "_law_rights") fd
  g_u_law_rights : mg "_law_rights" = some (.ref (He.ga K "_law_rights"))
  d_u_law_body : ∃ fd, FnP K "_law_body" "_law_body" s_u_law_body (He.ga K "_law_body") fd
  g_u_law_body : mg "_law_body" = some (.ref (He.ga K "_law_body"))
  d_u_law_other : ∃ fd, FnP K "_law_other" "_law_other" s_u_law_other (He.ga K "_law_other") fd
  g_u_law_other : mg "_law_other" = some (.ref (He.ga K "_law_other"))
  d_u_law_value : ∃ fd, FnP K "_law_value" "_law_value" s_u_law_value (He.ga K "_law_value") fd
  g_u_law_value : mg "_law_value" = some (.ref (He.ga K "_law_value"))
  d_u_law_is_text : ∃ fd, FnP K "_law_is_text" "_law_is_text" s_u_law_is_text (He.ga K "_law_is_text") fd
  g_u_law_is_text : mg "_law_is_text" = some (.ref (He.ga K "_law_is_text"))
  d_u_law_is_data : ∃ fd, FnP K "_law_is_data" "_law_is_data" s_u_law_is_data (He.ga K "_law_is_data") fd
  g_u_law_is_data : mg "_law_is_data" = some (.ref (He.ga K "_law_is_data"))
  d_u_law_is_body : ∃ fd, FnP K "_law_is_body" "_law_is_body" s_u_law_is_body (He.ga K "_law_is_body") fd
  g_u_law_is_body : mg "_law_is_body" = some (.ref (He.ga K "_law_is_body"))
  d_u_law_due : ∃ fd, FnP K "_law_due" "_law_due" s_u_law_due (He.ga K "_law_due") fd
  g_u_law_due : mg "_law_due" = some (.ref (He.ga K "_law_due"))
  d_u_law_pack : ∃ fd, FnP K "_law_pack" "_law_pack" s_u_law_pack (He.ga K "_law_pack") fd
  g_u_law_pack : mg "_law_pack" = some (.ref (He.ga K "_law_pack"))
  d_law : ∃ fd, FnP K "law" "law" s_law (He.ga K "law") fd
  g_law : mg "law" = some (.ref (He.ga K "law"))
  g_CurveError : mg "CurveError" = some (.ref (He.ga K "CurveError"))
  g_OutOfRange : mg "OutOfRange" = some (.ref (He.ga K "OutOfRange"))
  g_Malformed : mg "Malformed" = some (.ref (He.ga K "Malformed"))
  x_Malformed : PySem.W.excIn K (He.ga K "Malformed") He.veBase "ValueError.__new__" = true
  k_Malformed : PySem.W.keepIn K (.ref (He.ga K "Malformed")) = true
  b_Malformed : PySem.W.subIn K (.ref (He.ga K "Malformed")) (.type "BaseException") = some true
  t_Malformed : PySem.W.typeIn K (.ref (He.ga K "Malformed")) = some (.type "type")
  x_OutOfRange : PySem.W.excIn K (He.ga K "OutOfRange") He.veBase "ValueError.__new__" = true
  k_OutOfRange : PySem.W.keepIn K (.ref (He.ga K "OutOfRange")) = true
  b_OutOfRange : PySem.W.subIn K (.ref (He.ga K "OutOfRange")) (.type "BaseException") = some true
  t_OutOfRange : PySem.W.typeIn K (.ref (He.ga K "OutOfRange")) = some (.type "type")
  n_abs : mg "abs" = none
  n_all : mg "all" = none
  n_bool : mg "bool" = none
  n_int : mg "int" = none
  n_isinstance : mg "isinstance" = none
  n_len : mg "len" = none
  n_list : mg "list" = none
  n_ord : mg "ord" = none
  n_range : mg "range" = none
  n_str : mg "str" = none
  n_tuple : mg "tuple" = none
  n_zip : mg "zip" = none
  c_PERCENT : ∃ t, mg "PERCENT" = some (.int 37 t)
  c_LONGEST_TEXT : ∃ t, mg "LONGEST_TEXT" = some (.int 600 t)
  c_LONGEST_DATA : ∃ t, mg "LONGEST_DATA" = some (.int 1024 t)
  c_LONGEST_SIGNATURE : ∃ t, mg "LONGEST_SIGNATURE" = some (.int 256 t)
  c_ADMIT : ConF K mg "ADMIT" (toD k_ADMIT)
  c_REPLACE : ConF K mg "REPLACE" (toD k_REPLACE)
  c_RIGHTS : ConF K mg "RIGHTS" (toD k_RIGHTS)
  c_STATE : ConF K mg "STATE" (toD k_STATE)
  c_WITHDRAW : ConF K mg "WITHDRAW" (toD k_WITHDRAW)
  cls : Cls K errs subE
noncomputable def m_is_whole (value_ : D) : Res Bool :=
  (Res.need ((toD value_).plain = true) (Res.ok (isI "int" (toD value_)))).bind fun b2 => cond b2 ((Res.need ((toD value_).plain = true) (Res.ok (isI "bool" (toD value_)))).bind fun (t1 : Bool) => Res.ok (!t1)) (Res.ok false)
theorem ok_is_whole {P : Program} {w : World} {K : PySem.W.Frag} {mg : Str → Option Value} {base : Heap} (T : Facts P w K mg) {fd : FuncData} (F : FnP K "is_whole" "is_whole" s_is_whole (He.ga K "is_whole") fd) :
    FnOk P w K mg base (L2.CX P w) 1 (He.ga K "is_whole") fd ["value"] (spM K (fun (p : D × Unit) => m_is_whole p.1)) := by
  refine fn_ok F sc_is_whole (fun y => rfl) (fun cdv A outer s H E hr => ?_)
  refine ⟨_, (pss_one (ps_ret (pe_and (pe_callB call_isi (by rfl) T.n_isinstance (by decide +kernel) (pa_cons (pv 0) (pa_cons (pe_bltn (v := .ty "int") (by rfl) T.n_int (by decide +kernel) rfl) pa_nil))) (pe_one (pe_not (pe_callB call_isi (by rfl) T.n_isinstance (by decide +kernel) (pa_cons (pv 0) (pa_cons (pe_bltn (v := .ty "bool") (by rfl) T.n_bool (by decide +kernel) rfl) pa_nil)))))))), ?_⟩
  rintro ⟨value_, ⟨⟩⟩ F0 H0 Q KP L
  show Blk K F0 H0 KP _ [iM value_] (m_is_whole value_)
  unfold m_is_whole
  have hr_ := ((ev_andV (ev_isi isi_int (ev_var (i := 0) (x := value_) rfl)) (ev_notV (ev_isi isi_bool (ev_var (i := 0) (x := value_) rfl)))) : EvX K (W0 E) [iM value_] _ _)
  exact blk_ret L trivial (by exact hr_)
noncomputable def m_to_little (number_ : Int) (size_ : Int) : Res (List Int) :=
  (cond (decide (number_ < (0 : Int))) (Res.ok true) ((Res.ok (decide (((8 : Int) * size_) < ((Builtin.Int.intBits number_ : Nat) : Int)))))).bind fun b => cond b   (((((Res.ok size_)).bind fun (t3 : Int) => Res.need (Nat.log2 (Int.natAbs t3) < 1920 ∧ (toString t3 : Str).length ≤ 1000) (Res.ok ()))).bind fun (_ : Unit) => Res.exc "OutOfRange")   ((Res.need (okRange size_) (Res.ok (pyRange 0 size_))).bind fun (xs6 : List Int) => Res.need (xs6.length ≤ 16777216) (compL (fun (x4 : Int) => Res.ok true) (fun (x4 : Int) => (Res.need (0 ≤ ((8 : Int) * x4)) (Res.ok (number_ / 2 ^ ((8 : Int) * x4).toNat))).bind fun (t5 : Int) => Res.ok (Builtin.bitAnd t5 (255 : Int))) xs6))
theorem ok_to_little {P : Program} {w : World} {K : PySem.W.Frag} {mg : Str → Option Value} {base : Heap} (T : Facts P w K mg) {fd : FuncData} (F : FnP K "to_little" "to_little" s_to_little (He.ga K "to_little") fd) :
    FnOk P w K mg base (L2.CX P w) 1 (He.ga K "to_little") fd ["number", "size"] (spM K (fun (p : Int × Int × Unit) => m_to_little p.1 p.2.1)) := by
  refine fn_ok F sc_to_little (fun y => rfl) (fun cdv A outer s H E hr => ?_)
  refine ⟨_, (pss_cons (ps_if (PW.pt (pw_or (pt_cmpR op_lt (pv 0) pe_int (nomark _)) (pw_or1 (pt_cmpR op_gt (pe_bits (pv 0)) (pe_op op_mul pe_int (pv 1)) (nomark _))))) (pss_one (ps_raise rfl (takes_of rfl rfl rfl rfl) (SkE.pmk_own1 PySem.F.excBase_ValueError T.x_OutOfRange T.g_OutOfRange T.k_OutOfRange (raises_own T.b_OutOfRange T.t_OutOfRange) rfl (pe_joined (PJ.cons pe_str (PJ.cons (pe_fmt (pv 1)) (PJ.cons pe_str PJ.nil))))))) pss_nil) (pss_one (ps_ret (pe_lc (own := [("at", 2)]) rfl sc_to_little.nd (pi_range1 rfl T.n_range (pa_cons (pv 1) pa_nil)) (blkOk_by (own := [("at", 2)]) (N := ["number", "size", "at"]) (sc := defScope s_to_little) (by decide +kernel)) (fun _ _ _ _ _ => (pg_name (i := 2) sc_to_little.nd rfl (Or.inl rfl))) (fun _ _ _ _ _ => pts_nil) (fun _ _ _ _ _ => (pe_op op_and (pe_op op_shr (pv 0) (pe_op op_mul pe_int (pv 2))) pe_int)))))), ?_⟩
  rintro ⟨number_, size_, ⟨⟩⟩ F0 H0 Q KP L
  show Blk K F0 H0 KP _ [iM number_, iM size_, none] (m_to_little number_ size_)
  unfold m_to_little
  have ht_ := ((et_or (et_test (ev_op (opx_B0 (g := fun i j => decide (i < j))) mild_ok (ev_var (i := 0) (x := number_) rfl) (ev_int (i := 0)))) (et_test (ev_op (opx_B0 (g := fun i j => decide (j < i))) mild_ok (ev_bits (ev_var (i := 0) (x := number_) rfl)) (ev_opI (C := CMul) (g := fun i j => i * j) (fun x y h _ => by cases h; exact .inl (by decide)) (ev_int (i := 8)) (ev_var (i := 1) (x := size_) rfl))))) : EvT K (W0 E) [iM number_, iM size_, none] _ _)
  refine blk_seq (blk_if2 L trivial (by exact ht_) ?_ ?_)
  · exact blk_raiseJ L trivial (by rw [sizeLine_eq]; decide) ((ej_txt (n := 29) (x := "the number does not fit into ") (by decide) (ej_int (ev_var (i := 1) (x := size_) rfl) (ej_txt (n := 6) (x := " bytes") (by decide) ej_nil))) : EvJ K (W0 E) [iM number_, iM size_, none] _ _ _)
  · refine blk_nil ?_
    try refine Blk.nx ?_
    have hr_ := ((ev_ofN (ev_comp (tst := fun (x4 : Int) => Res.ok true) (el := fun (x4 : Int) => (Res.need (0 ≤ ((8 : Int) * x4)) (Res.ok (number_ / 2 ^ ((8 : Int) * x4).toNat))).bind fun (t5 : Int) => Res.ok (Builtin.bitAnd t5 (255 : Int))) (ws := [2]) (ei_range1 (ev_var (i := 1) (x := size_) rfl)) (fun _ => gx_name) (fun x4 => et_yes) (fun x4 => ((ev_op (opx_I0 (g := Builtin.bitAnd)) mild_ok (ev_op (opx_I (C := (fun _ j => 0 ≤ j)) (g := fun i j => i / 2 ^ j.toNat)) mild_need (ev_var (i := 0) (x := number_) rfl) (ev_opI (C := CMul) (g := fun i j => i * j) (fun x y h _ => by cases h; exact .inl (by decide)) (ev_int (i := 8)) (ev_var (i := 2) (x := x4) rfl))) (ev_int (i := 255))) : EvX K WT [iM number_, iM size_, iM x4] _ _)))) : EvX K (W0 E) [iM number_, iM size_, none] _ _)
    exact blk_ret L trivial (by exact hr_)
noncomputable def m_to_big (number_ : Int) (size_ : Int) : Res (List Int) :=
  (m_to_little number_ size_).bind fun (t7 : (List Int)) => Res.ok (List.reverse t7)
theorem ok_to_big {P : Program} {w : World} {K : PySem.W.Frag} {mg : Str → Option Value} {base : Heap} (T : Facts P w K mg) {fd : FuncData} (F : FnP K "to_big" "to_big" s_to_big (He.ga K "to_big") fd) :
    FnOk P w K mg base (L2.CX P w) 2 (He.ga K "to_big") fd ["number", "size"] (spM K (fun (p : Int × Int × Unit) => m_to_big p.1 p.2.1)) := by
  obtain ⟨fd_to_little, F_to_little⟩ := T.d_to_little
  have G_to_little := ok_to_little (P := P) (w := w) (base := base) T F_to_little
  have b_to_little : Binds K fd_to_little ["number", "size"] [] := F_to_little.bindsN fun _ _ _ _ _ _ us hl => match us, hl with | [_, _], _ => rfl
  refine fn_ok F sc_to_big (fun y => rfl) (fun cdv A outer s H E hr => ?_)
  refine ⟨_, (pss_one (ps_ret (pe_revL (pe_callS G_to_little (hr.mono (by decide)) rfl T.g_to_little F_to_little.kp b_to_little (fun σ => passAt (takes_of rfl rfl rfl rfl) σ) (pa_cons (pv 0) (pa_cons (pv 1) pa_nil)))))), ?_⟩
  rintro ⟨number_, size_, ⟨⟩⟩ F0 H0 Q KP L
  show Blk K F0 H0 KP _ [iM number_, iM size_] (m_to_big number_ size_)
  unfold m_to_big
  have hr_ := ((ev_ofN (en_rev (ev_call (f := (fun (p : Int × Int × Unit) => m_to_little p.1 p.2.1)) (ea_cons (ev_var (i := 0) (x := number_) rfl) (ea_cons (ev_var (i := 1) (x := size_) rfl) ea_nil))))) : EvX K (W0 E) [iM number_, iM size_] _ _)
  exact blk_ret L trivial (by exact hr_)
noncomputable def m_is_bytes (value_ : D) : Res Bool :=
  (Res.need ((toD value_).plain = true) (Res.ok (isI "list" (toD value_)))).bind fun b15 => cond b15 ((((((Res.ok value_)).bind D.asList).bind fun (xs11 : List D) => Res.need (xs11.length ≤ 16777216) (compL (fun (x8 : D) => Res.ok true) (fun (x8 : D) => ((m_is_whole x8).noexc).bind fun b10 => cond b10 ((((Res.ok x8)).bind D.asInt).bind fun (t9 : Int) => cond (decide ((0 : Int) ≤ t9)) (Res.ok (decide (t9 ≤ (255 : Int)))) (Res.ok false)) (Res.ok false)) xs11)).bind fun a12 => Res.ok (a12, ())).bind fun p14 => Res.ok ((p14.1).all id)) (Res.ok false)
theorem ok_is_bytes {P : Program} {w : World} {K : PySem.W.Frag} {mg : Str → Option Value} {base : Heap} (T : Facts P w K mg) {fd : FuncData} (F : FnP K "is_bytes" "is_bytes" s_is_bytes (He.ga K "is_bytes") fd) :
    FnOk P w K mg base (L2.CX P w) 2 (He.ga K "is_bytes") fd ["value"] (spM K (fun (p : D × Unit) => m_is_bytes p.1)) := by
  obtain ⟨fd_is_whole, F_is_whole⟩ := T.d_is_whole
  have G_is_whole := ok_is_whole (P := P) (w := w) (base := base) T F_is_whole
  have b_is_whole : Binds K fd_is_whole ["value"] [] := F_is_whole.bindsN fun _ _ _ _ _ _ us hl => match us, hl with | [_], _ => rfl
  refine fn_ok F sc_is_bytes (fun y => rfl) (fun cdv A outer s H E hr => ?_)
  refine ⟨_, (pss_one (ps_ret (pe_and (pe_callB call_isi (by rfl) T.n_isinstance (by decide +kernel) (pa_cons (pv 0) (pa_cons (pe_bltn (v := .ty "list") (by rfl) T.n_list (by decide +kernel) rfl) pa_nil))) (pe_one (pe_callB (cr_all rfl) (by rfl) T.n_all (by decide +kernel) (pa_cons (pe_lc (own := [("item", 1)]) rfl sc_is_bytes.nd (pi_list (pv 0)) (blkOk_by (own := [("item", 1)]) (N := ["value", "item"]) (sc := defScope s_is_bytes) (by decide +kernel)) (fun _ _ _ _ _ => (pg_name (i := 1) sc_is_bytes.nd rfl (Or.inl rfl))) (fun _ _ _ _ _ => pts_nil) (fun _ _ _ _ _ => (pe_and (pe_call G_is_whole (hr.mono (by decide)) rfl T.g_is_whole F_is_whole.kp b_is_whole .nil passL (pa_cons (pv 1) pa_nil)) (pe_one (pe_chain op_le op_le pe_int (pv 1) pe_int))))) pa_nil)))))), ?_⟩
  rintro ⟨value_, ⟨⟩⟩ F0 H0 Q KP L
  show Blk K F0 H0 KP _ [iM value_, none] (m_is_bytes value_)
  unfold m_is_bytes
  have hr_ := ((ev_andV (ev_isi isi_list (ev_var (i := 0) (x := value_) rfl)) (ev_cb cx_all (fun _ _ h => nomatch h) (ea_cons (ev_ofN (ev_comp (tst := fun (x8 : D) => Res.ok true) (el := fun (x8 : D) => ((m_is_whole x8).noexc).bind fun b10 => cond b10 ((((Res.ok x8)).bind D.asInt).bind fun (t9 : Int) => cond (decide ((0 : Int) ≤ t9)) (Res.ok (decide (t9 ≤ (255 : Int)))) (Res.ok false)) (Res.ok false)) (ws := [1]) (ei_list (ev_cast (f := D.asList) asList_ok asList_x (ev_var (i := 0) (x := value_) rfl))) (fun _ => gx_name) (fun x8 => et_yes) (fun x8 => ((ev_andV (ev_call0 (f := (fun (p : D × Unit) => m_is_whole p.1)) (ea_cons (ev_var (i := 1) (x := x8) rfl) ea_nil)) (ev_chain (opx_B0 (g := fun i j => decide (i ≤ j))) mild_ok (opx_B0 (g := fun i j => decide (i ≤ j))) mild_ok (ev_int (i := 0)) (ev_cast (f := D.asInt) asInt_ok asInt_x (ev_var (i := 1) (x := x8) rfl)) (ev_int (i := 255)))) : EvX K WT [iM value_, iM x8] _ _)))) ea_nil))) : EvX K (W0 E) [iM value_, none] _ _)
  exact blk_ret L trivial (by exact hr_)
noncomputable def m_ascii_codes_l1 (k1 : Unit → Res (List Int)) : List Int → Unit → Res (List Int)
  | [], s => k1 s
  | x18 :: r1, _ =>   (fun (code_ : Int) => (cond (decide (code_ < (32 : Int))) (Res.ok true) (cond (decide ((126 : Int) < code_)) (Res.ok true) ((Res.ok (decide (code_ = (37 : Int))))))).bind fun b => cond b   (Res.exc "Malformed")   (m_ascii_codes_l1 k1 r1 ())) x18
noncomputable def m_ascii_codes_k2 (codes_ : (List Int)) : Unit → Res (List Int) := fun _ =>   (Res.ok codes_)
noncomputable def m_ascii_codes (text_ : Str) : Res (List Int) :=
  (((Res.ok (chars text_))).bind fun (xs17 : List Str) => Res.need (xs17.length ≤ 16777216) (compL (fun (x16 : Str) => Res.ok true) (fun (x16 : Str) => Res.need ((x16).length = 1) (Res.ok (((x16).cps.getD 0 0 : Nat) : Int))) xs17)).bind fun (codes_ : (List Int)) =>   ((Res.ok codes_)).bind fun (xs19 : List Int) => m_ascii_codes_l1 (m_ascii_codes_k2 codes_) xs19 ()
theorem ok_ascii_codes {P : Program} {w : World} {K : PySem.W.Frag} {mg : Str → Option Value} {base : Heap} (T : Facts P w K mg) {fd : FuncData} (F : FnP K "ascii_codes" "ascii_codes" s_ascii_codes (He.ga K "ascii_codes") fd) :
    FnOk P w K mg base (L2.CX P w) 1 (He.ga K "ascii_codes") fd ["text"] (spM K (fun (p : Str × Unit) => m_ascii_codes p.1)) := by
  refine fn_ok F sc_ascii_codes (fun y => rfl) (fun cdv A outer s H E hr => ?_)
  refine ⟨_, (pss_cons (ps_setLc (i := 1) (own := [("character", 3)]) rfl sc_ascii_codes.nd rfl rfl (sw_true rfl rfl rfl (by decide +kernel)) (pi_str (pv 0)) (blkOk_by (own := [("character", 3)]) (N := ["text", "codes", "code", "character"]) (sc := defScope s_ascii_codes) (by decide +kernel)) (fun _ _ _ _ _ => (pg_name (i := 3) sc_ascii_codes.nd rfl (Or.inl rfl))) (fun _ _ _ _ _ => pts_nil) (fun _ _ _ _ _ => (pe_callB call_ord (by rfl) T.n_ord (by decide +kernel) (pa_cons (pv 3) pa_nil)))) (pss_cons (ps_for (passes_of rfl) rfl (pi_list (pv 1)) (pg_name (i := 2) sc_ascii_codes.nd rfl (Or.inl rfl)) (pss_one (ps_if (PW.pt (pw_or (pt_cmpR op_lt (pv 2) pe_int (nomark _)) (pw_or (pt_cmpR op_gt (pv 2) pe_int (nomark _)) (pw_or1 (pt_cmpR op_eq (pv 2) (pe_glob (v := .int 37) rfl T.c_PERCENT.choose_spec ⟨_, rfl⟩) (nomark _)))))) (pss_one (ps_raise rfl (takes_of rfl rfl rfl rfl) (pmk_own PySem.F.excBase_ValueError T.x_Malformed T.g_Malformed T.k_Malformed (raises_own T.b_Malformed T.t_Malformed) rfl))) pss_nil))) (pss_one (ps_ret (pv 1))))), ?_⟩
  rintro ⟨text_, ⟨⟩⟩ F0 H0 Q KP L
  show Blk K F0 H0 KP _ [iM text_, none, none, none] (m_ascii_codes text_)
  unfold m_ascii_codes
  have hs_ := ((ev_ofN (ev_comp (tst := fun (x16 : Str) => Res.ok true) (el := fun (x16 : Str) => Res.need ((x16).length = 1) (Res.ok (((x16).cps.getD 0 0 : Nat) : Int))) (ws := [3]) (ei_str (ev_var (i := 0) (x := text_) rfl)) (fun _ => gx_name) (fun x16 => et_yes) (fun x16 => ((ev_cb cx_ord (fun _ _ h => need_mild h) (ea_cons (ev_var (i := 3) (x := x16) rfl) ea_nil)) : EvX K WT [iM text_, none, none, iM x16] _ _)))) : EvX K (W0 E) [iM text_, none, none, none] _ _)
  refine blk_seq (blk_set (i := 1) L trivial (by exact hs_) fun codes_ => ?_)
  show Blk _ _ _ _ _ [iM text_, iM codes_, none, none] _
  try refine Blk.nx ?_
  have hi_ := ((ei_list (ev_var (i := 1) (x := codes_) rfl)) : EvI K (W0 E) [iM text_, iM codes_, none, none] _ _)
  refine blk_seq (blk_for (S := Unit) (m_ascii_codes_l1 (m_ascii_codes_k2 codes_)) (m_ascii_codes_k2 codes_) (fun _ => [iM text_, iM codes_, none, none]) () L trivial (by exact hi_) (fun _ => gx_name) (.same (.same (.same (.same .nil)))) (fun _ => rfl) ?_ ?_)
  · intro F1 L1 hB1 x18 r1 s_ N_ hN1
    obtain ⟨⟩ := s_
    show Blk _ _ _ _ _ [iM text_, iM codes_, iM x18, none] (m_ascii_codes_l1 (m_ascii_codes_k2 codes_) (x18 :: r1) ())
    rw [m_ascii_codes_l1]
    show Blk _ _ _ _ _ _ ((fun (code_ : Int) => _) x18)
    generalize x18 = code_
    show Blk _ _ _ _ _ [iM text_, iM codes_, iM code_, none] _
    have ht_ := ((et_or (et_test (ev_op (opx_B0 (g := fun i j => decide (i < j))) mild_ok (ev_var (i := 2) (x := code_) rfl) (ev_int (i := 32)))) (et_or (et_test (ev_op (opx_B0 (g := fun i j => decide (j < i))) mild_ok (ev_var (i := 2) (x := code_) rfl) (ev_int (i := 126)))) (et_test (ev_op opx_eqI mild_ok (ev_var (i := 2) (x := code_) rfl) (ev_int (i := 37)))))) : EvT K (W0 E) [iM text_, iM codes_, iM code_, none] _ _)
    refine blk_if2 L1 trivial (by exact ht_) ?_ ?_
    · exact blk_raise L1 trivial
    · refine blk_nil ?_
      try refine Blk.nx ?_
      exact (hN1 ()).weak (.same (.same (.drop (.same .nil))))
  · intro _
    show Blk _ _ _ _ _ [iM text_, iM codes_, none, none] ((m_ascii_codes_k2 codes_) ())
    unfold m_ascii_codes_k2
    try refine Blk.nx ?_
    have hr_ := ((ev_var (i := 1) (x := codes_) rfl) : EvX K (W0 E) [iM text_, iM codes_, none, none] _ _)
    exact blk_ret L trivial (by exact hr_)
noncomputable def m_u_is_text_k2 : Unit → Res Bool := fun _ =>   (Res.ok true)
noncomputable def m_u_is_text (value_ : D) : Res Bool :=
  (((Res.need ((toD value_).plain = true) (Res.ok (isI "str" (toD value_)))).bind fun (t20 : Bool) => Res.ok (!t20)).bind fun b25 => cond b25 (Res.ok true) ((((((Res.ok value_)).bind D.asStr).bind fun a21 => Res.ok (a21, ())).bind fun p23 => Res.need ((p23.1).length ≤ 16777216) (Res.ok ((p23.1).length : Int))).bind fun (t24 : Int) => Res.ok (decide ((600 : Int) < t24)))).bind fun b => cond b   ((Res.ok false))   (tryM (fun c => decide (c ∈ errs)) subE   ((((((Res.ok value_)).bind D.asStr).bind fun a26 => Res.ok (a26, ())).bind fun p28 => m_ascii_codes p28.1).bind fun (_ : (List Int)) =>   Res.ok (.go ()))   (m_u_is_text_k2) [("Malformed", (Res.ok false))])
theorem ok_u_is_text {P : Program} {w : World} {K : PySem.W.Frag} {mg : Str → Option Value} {base : Heap} (T : Facts P w K mg) {fd : FuncData} (F : FnP K "_is_text" "_is_text" s_u_is_text (He.ga K "_is_text") fd) :
    FnOk P w K mg base (L2.CX P w) 2 (He.ga K "_is_text") fd ["value"] (spM K (fun (p : D × Unit) => m_u_is_text p.1)) := by
  obtain ⟨fd_ascii_codes, F_ascii_codes⟩ := T.d_ascii_codes
  have G_ascii_codes := ok_ascii_codes (P := P) (w := w) (base := base) T F_ascii_codes
  have b_ascii_codes : Binds K fd_ascii_codes ["text"] [] := F_ascii_codes.bindsN fun _ _ _ _ _ _ us hl => match us, hl with | [_], _ => rfl
  refine fn_ok F sc_u_is_text (fun y => rfl) (fun cdv A outer s H E hr => ?_)
  refine ⟨_, (pss_cons (ps_if (PW.pt (pw_or (pt_not (pt_val (pe_callB call_isi (by rfl) T.n_isinstance (by decide +kernel) (pa_cons (pv 0) (pa_cons (pe_bltn (v := .ty "str") (by rfl) T.n_str (by decide +kernel) rfl) pa_nil))))) (pw_or1 (pt_cmpR op_gt (pe_callB cr_lenT (by rfl) T.n_len (by decide +kernel) (pa_cons (pv 0) pa_nil)) (pe_glob (v := .int 600) rfl T.c_LONGEST_TEXT.choose_spec ⟨_, rfl⟩) (nomark _))))) (pss_one (ps_ret pe_bl)) pss_nil) (pss_cons (ps_tryM rfl rfl (takes_of rfl rfl rfl rfl) (fun qW_ qpn_ qxe_ qtk_ qpo_ => (pss_one (ps_expr (pe_callS G_ascii_codes (hr.mono (by decide)) rfl T.g_ascii_codes F_ascii_codes.kp b_ascii_codes (fun σ => passAt qtk_ σ) (pa_cons (pv 0) pa_nil))))) (.cons ⟨rfl, by decide, .inl T.g_Malformed⟩ (fun qa_ qoe_ qcls_ qd_ qpn_ qhz_ qhf_ => (pss_one (ps_ret pe_bl))) .nil)) (pss_one (ps_ret pe_bl)))), ?_⟩
  rintro ⟨value_, ⟨⟩⟩ F0 H0 Q KP L
  show Blk K F0 H0 KP _ [iM value_] (m_u_is_text value_)
  unfold m_u_is_text
  have ht_ := ((et_or (et_not (et_B (ev_isi isi_str (ev_var (i := 0) (x := value_) rfl)))) (et_test (ev_op (opx_B0 (g := fun i j => decide (j < i))) mild_ok (ev_cb cx_lenS (fun _ _ h => need_mild h) (ea_cons (ev_cast (f := D.asStr) asStr_ok asStr_x (ev_var (i := 0) (x := value_) rfl)) ea_nil)) (ev_int (i := 600))))) : EvT K (W0 E) [iM value_] _ _)
  refine blk_seq (blk_if2 L trivial (by exact ht_) ?_ ?_)
  · have hr_ := ((ev_bl (b := false)) : EvX K (W0 E) [iM value_] _ _)
    exact blk_ret L trivial (by exact hr_)
  · refine blk_nil ?_
    try refine Blk.nx ?_
    refine blk_seq (blk_tryM (S := Unit) (envS := fun _ => [iM value_]) (rest := (m_u_is_text_k2)) L trivial T.cls ?_ (.cons (by decide) (fun qa_ qcls_ => ?_) .nil) ?_)
    · intro qW_ qKP_ Lt qhg_
      have hs_ := ((ev_call (f := (fun (p : Str × Unit) => m_ascii_codes p.1)) (ea_cons (ev_cast (f := D.asStr) asStr_ok asStr_x (ev_var (i := 0) (x := value_) rfl)) ea_nil)) : EvX K qW_ [iM value_] _ _)
      refine blk_expr Lt (.same .nil) (by exact hs_) fun _ => ?_
      try refine Blk.nx ?_
      exact (qhg_ ()).weak (.same .nil)
    · show Blk _ _ _ _ _ [iM value_] _
      have hr_ := ((ev_bl (b := false)) : EvX K (W0 E) [iM value_] _ _)
      exact blk_ret L trivial (by exact hr_)
    · intro _
      show Blk _ _ _ _ _ [iM value_] ((m_u_is_text_k2) ())
      unfold m_u_is_text_k2
      try refine Blk.nx ?_
      have hr_ := ((ev_bl (b := true)) : EvX K (W0 E) [iM value_] _ _)
      exact blk_ret L trivial (by exact hr_)
noncomputable def m_u_is_byte_tuple (value_ : D) (longest_ : Int) : Res Bool :=
  (Res.need ((toD value_).plain = true) (Res.ok (isI "tuple" (toD value_)))).bind fun b36 => cond b36 (((((Res.ok value_)).bind fun (t29 : D) => D.lenR t29).bind fun (t30 : Int) => Res.ok (decide (t30 ≤ longest_))).bind fun b35 => cond b35 (((((((Res.ok value_)).bind D.asTu).bind fun (t31 : (Tu D)) => Res.ok (t31).xs).bind fun (x : (List D)) => Res.ok (toD x)).bind fun a32 => Res.ok (a32, ())).bind fun p34 => m_is_bytes p34.1) (Res.ok false)) (Res.ok false)
theorem ok_u_is_byte_tuple {P : Program} {w : World} {K : PySem.W.Frag} {mg : Str → Option Value} {base : Heap} (T : Facts P w K mg) {fd : FuncData} (F : FnP K "_is_byte_tuple" "_is_byte_tuple" s_u_is_byte_tuple (He.ga K "_is_byte_tuple") fd) :
    FnOk P w K mg base (L2.CX P w) 3 (He.ga K "_is_byte_tuple") fd ["value", "longest"] (spM K (fun (p : D × Int × Unit) => m_u_is_byte_tuple p.1 p.2.1)) := by
  obtain ⟨fd_is_bytes, F_is_bytes⟩ := T.d_is_bytes
  have G_is_bytes := ok_is_bytes (P := P) (w := w) (base := base) T F_is_bytes
  have b_is_bytes : Binds K fd_is_bytes ["value"] [] := F_is_bytes.bindsN fun _ _ _ _ _ _ us hl => match us, hl with | [_], _ => rfl
  refine fn_ok F sc_u_is_byte_tuple (fun y => rfl) (fun cdv A outer s H E hr => ?_)
  refine ⟨_, (pss_one (ps_ret (pe_and (pe_callB call_isi (by rfl) T.n_isinstance (by decide +kernel) (pa_cons (pv 0) (pa_cons (pe_bltn (v := .ty "tuple") (by rfl) T.n_tuple (by decide +kernel) rfl) pa_nil))) (pe_and (pe_cmpR op_le (pe_callB (cr_len rfl) (by rfl) T.n_len (by decide +kernel) (pa_cons (pv 0) pa_nil)) (pv 1) (nomark _)) (pe_one (pe_callS G_is_bytes (hr.mono (by decide)) rfl T.g_is_bytes F_is_bytes.kp b_is_bytes (fun σ => passAt (takes_of rfl rfl rfl rfl) σ) (pa_cons (pe_callTy (T := "list") (cr_listof rfl) (by rfl) T.n_list (by decide +kernel) (pa_cons (pv 0) pa_nil)) pa_nil))))))), ?_⟩
  rintro ⟨value_, longest_, ⟨⟩⟩ F0 H0 Q KP L
  show Blk K F0 H0 KP _ [iM value_, iM longest_] (m_u_is_byte_tuple value_ longest_)
  unfold m_u_is_byte_tuple
  have hr_ := ((ev_andV (ev_isi isi_tuple (ev_var (i := 0) (x := value_) rfl)) (ev_andV (ev_op (opx_B0 (g := fun i j => decide (i ≤ j))) mild_ok (ev_lenD (ev_var (i := 0) (x := value_) rfl)) (ev_var (i := 1) (x := longest_) rfl)) (ev_call (f := (fun (p : D × Unit) => m_is_bytes p.1)) (ea_cons (ev_as (ev_ofN (en_listT (ev_cast (f := D.asTu) asTu_ok asTu_x (ev_var (i := 0) (x := value_) rfl)))) toD (fun _ => rfl) rfl) ea_nil)))) : EvX K (W0 E) [iM value_, iM longest_] _ _)
  exact blk_ret L trivial (by exact hr_)
noncomputable def m_u_is_body (kind_ : Str) (body_ : D) : Res Bool :=
  ((Res.ok (kind_ == k_STATE))).bind fun b => cond b   (((((Res.ok body_)).bind fun (t37 : D) => D.lenR t37).bind fun (t38 : Int) => Res.ok (decide (t38 = (1 : Int)))).bind fun b43 => cond b43 ((((((Res.ok body_)).bind D.asTu).bind fun (t39 : (Tu D)) => idx (t39).xs (0 : Int)).bind fun a40 => Res.ok (a40, ((1024 : Int), ()))).bind fun p42 => m_u_is_byte_tuple p42.1 p42.2.1) (Res.ok false))   (((Res.ok (kind_ == k_ADMIT))).bind fun b => cond b   (((((Res.ok body_)).bind fun (t44 : D) => D.lenR t44).bind fun (t45 : Int) => Res.ok (decide (t45 = (2 : Int)))).bind fun b57 => cond b57 (((((((Res.ok body_)).bind D.asTu).bind fun (t46 : (Tu D)) => idx (t46).xs (0 : Int)).bind fun a47 => Res.ok (a47, ())).bind fun p49 => m_u_is_text p49.1).bind fun b56 => cond b56 ((((((Res.ok body_)).bind D.asTu).bind fun (t50 : (Tu D)) => idx (t50).xs (1 : Int)).bind fun (t51 : D) => Res.need ((toD t51).plain = true) (Res.ok (isI "str" (toD t51)))).bind fun b55 => cond b55 ((((((Res.ok body_)).bind D.asTu).bind fun (t52 : (Tu D)) => idx (t52).xs (1 : Int)).bind D.asStr).bind fun (t54 : Str) => Res.ok (decide (t54 ∈ (((fun (x : (T8 Str Str Str Str Str Str Str Str)) => Tu.mk [x.a, x.b, x.c, x.e, x.f, x.g, x.h, x.i]) k_RIGHTS)).xs))) (Res.ok false)) (Res.ok false)) (Res.ok false))   (((Res.ok (kind_ == k_REPLACE))).bind fun b => cond b   (((((Res.ok body_)).bind fun (t58 : D) => D.lenR t58).bind fun (t59 : Int) => Res.ok (decide (t59 = (2 : Int)))).bind fun b69 => cond b69 (((((((Res.ok body_)).bind D.asTu).bind fun (t60 : (Tu D)) => idx (t60).xs (0 : Int)).bind fun a61 => Res.ok (a61, ())).bind fun p63 => m_u_is_text p63.1).bind fun b68 => cond b68 ((((((Res.ok body_)).bind D.asTu).bind fun (t64 : (Tu D)) => idx (t64).xs (1 : Int)).bind fun a65 => Res.ok (a65, ((256 : Int), ()))).bind fun p67 => m_u_is_byte_tuple p67.1 p67.2.1) (Res.ok false)) (Res.ok false))   (cond (kind_ == k_WITHDRAW) (((((Res.ok body_)).bind fun (t70 : D) => D.lenR t70).bind fun (t71 : Int) => Res.ok (decide (t71 = (1 : Int)))).bind fun b76 => cond b76 ((((((Res.ok body_)).bind D.asTu).bind fun (t72 : (Tu D)) => idx (t72).xs (0 : Int)).bind fun a73 => Res.ok (a73, ())).bind fun p75 => m_u_is_text p75.1) (Res.ok false)) (Res.ok false))))
theorem ok_u_is_body {P : Program} {w : World} {K : PySem.W.Frag} {mg : Str → Option Value} {base : Heap} (T : Facts P w K mg) {fd : FuncData} (F : FnP K "_is_body" "_is_body" s_u_is_body (He.ga K "_is_body") fd) :
    FnOk P w K mg base (L2.CX P w) 4 (He.ga K "_is_body") fd ["kind", "body"] (spM K (fun (p : Str × D × Unit) => m_u_is_body p.1 p.2.1)) := by
  obtain ⟨fd_u_is_byte_tuple, F_u_is_byte_tuple⟩ := T.d_u_is_byte_tuple
  have G_u_is_byte_tuple := ok_u_is_byte_tuple (P := P) (w := w) (base := base) T F_u_is_byte_tuple
  have b_u_is_byte_tuple : Binds K fd_u_is_byte_tuple ["value", "longest"] [] := F_u_is_byte_tuple.bindsN fun _ _ _ _ _ _ us hl => match us, hl with | [_, _], _ => rfl
  obtain ⟨fd_u_is_text, F_u_is_text⟩ := T.d_u_is_text
  have G_u_is_text := ok_u_is_text (P := P) (w := w) (base := base) T F_u_is_text
  have b_u_is_text : Binds K fd_u_is_text ["value"] [] := F_u_is_text.bindsN fun _ _ _ _ _ _ us hl => match us, hl with | [_], _ => rfl
  refine fn_ok F sc_u_is_body (fun y => rfl) (fun cdv A outer s H E hr => ?_)
  refine ⟨_, (pss_cons (ps_if (pt_cmpR op_eq (pv 0) (pe_glob (v := T.c_STATE.v) rfl T.c_STATE.m T.c_STATE.r) (nomark _)) (pss_one (ps_ret (pe_and (pe_cmpR op_eq (pe_callB (cr_len rfl) (by rfl) T.n_len (by decide +kernel) (pa_cons (pv 1) pa_nil)) pe_int (nomark _)) (pe_one (pe_callS G_u_is_byte_tuple (hr.mono (by decide)) rfl T.g_u_is_byte_tuple F_u_is_byte_tuple.kp b_u_is_byte_tuple (fun σ => passAt (takes_of rfl rfl rfl rfl) σ) (pa_cons (pe_ix (cr_ixT rfl) (pv 1) pe_int (fun _ _ => rfl)) (pa_cons (pe_glob (v := .int 1024) rfl T.c_LONGEST_DATA.choose_spec ⟨_, rfl⟩) pa_nil))))))) pss_nil) (pss_cons (ps_if (pt_cmpR op_eq (pv 0) (pe_glob (v := T.c_ADMIT.v) rfl T.c_ADMIT.m T.c_ADMIT.r) (nomark _)) (pss_one (ps_ret (pe_and (pe_cmpR op_eq (pe_callB (cr_len rfl) (by rfl) T.n_len (by decide +kernel) (pa_cons (pv 1) pa_nil)) pe_int (nomark _)) (pe_and (pe_callS G_u_is_text (hr.mono (by decide)) rfl T.g_u_is_text F_u_is_text.kp b_u_is_text (fun σ => passAt (takes_of rfl rfl rfl rfl) σ) (pa_cons (pe_ix (cr_ixT rfl) (pv 1) pe_int (fun _ _ => rfl)) pa_nil)) (pe_and (pe_callB call_isi (by rfl) T.n_isinstance (by decide +kernel) (pa_cons (pe_ix (cr_ixT rfl) (pv 1) pe_int (fun _ _ => rfl)) (pa_cons (pe_bltn (v := .ty "str") (by rfl) T.n_str (by decide +kernel) rfl) pa_nil))) (pe_one (pe_cmpR op_in_seq (pe_ix (cr_ixT rfl) (pv 1) pe_int (fun _ _ => rfl)) (pe_glob (v := T.c_RIGHTS.v) rfl T.c_RIGHTS.m T.c_RIGHTS.r) rfl))))))) pss_nil) (pss_cons (ps_if (pt_cmpR op_eq (pv 0) (pe_glob (v := T.c_REPLACE.v) rfl T.c_REPLACE.m T.c_REPLACE.r) (nomark _)) (pss_one (ps_ret (pe_and (pe_cmpR op_eq (pe_callB (cr_len rfl) (by rfl) T.n_len (by decide +kernel) (pa_cons (pv 1) pa_nil)) pe_int (nomark _)) (pe_and (pe_callS G_u_is_text (hr.mono (by decide)) rfl T.g_u_is_text F_u_is_text.kp b_u_is_text (fun σ => passAt (takes_of rfl rfl rfl rfl) σ) (pa_cons (pe_ix (cr_ixT rfl) (pv 1) pe_int (fun _ _ => rfl)) pa_nil)) (pe_one (pe_callS G_u_is_byte_tuple (hr.mono (by decide)) rfl T.g_u_is_byte_tuple F_u_is_byte_tuple.kp b_u_is_byte_tuple (fun σ => passAt (takes_of rfl rfl rfl rfl) σ) (pa_cons (pe_ix (cr_ixT rfl) (pv 1) pe_int (fun _ _ => rfl)) (pa_cons (pe_glob (v := .int 256) rfl T.c_LONGEST_SIGNATURE.choose_spec ⟨_, rfl⟩) pa_nil)))))))) pss_nil) (pss_one (ps_ret (pe_and (pe_cmpR op_eq (pv 0) (pe_glob (v := T.c_WITHDRAW.v) rfl T.c_WITHDRAW.m T.c_WITHDRAW.r) (nomark _)) (pe_and (pe_cmpR op_eq (pe_callB (cr_len rfl) (by rfl) T.n_len (by decide +kernel) (pa_cons (pv 1) pa_nil)) pe_int (nomark _)) (pe_one (pe_callS G_u_is_text (hr.mono (by decide)) rfl T.g_u_is_text F_u_is_text.kp b_u_is_text (fun σ => passAt (takes_of rfl rfl rfl rfl) σ) (pa_cons (pe_ix (cr_ixT rfl) (pv 1) pe_int (fun _ _ => rfl)) pa_nil)))))))))), ?_⟩
  rintro ⟨kind_, body_, ⟨⟩⟩ F0 H0 Q KP L
  show Blk K F0 H0 KP _ [iM kind_, iM body_] (m_u_is_body kind_ body_)
  unfold m_u_is_body
  have ht_ := ((et_test (ev_op opx_eqS mild_ok (ev_var (i := 0) (x := kind_) rfl) (ev_con T.c_STATE))) : EvT K (W0 E) [iM kind_, iM body_] _ _)
  refine blk_seq (blk_if2 L trivial (by exact ht_) ?_ ?_)
  · have hr_ := ((ev_andV (ev_op opx_eqI mild_ok (ev_lenD (ev_var (i := 1) (x := body_) rfl)) (ev_int (i := 1))) (ev_call (f := (fun (p : D × Int × Unit) => m_u_is_byte_tuple p.1 p.2.1)) (ea_cons (ev_op opx_ixT (fun x y => idx_mild x.xs y) (ev_cast (f := D.asTu) asTu_ok asTu_x (ev_var (i := 1) (x := body_) rfl)) (ev_int (i := 0))) (ea_cons (ev_int (i := 1024)) ea_nil)))) : EvX K (W0 E) [iM kind_, iM body_] _ _)
    exact blk_ret L trivial (by exact hr_)
  · refine blk_nil ?_
    try refine Blk.nx ?_
    have ht_ := ((et_test (ev_op opx_eqS mild_ok (ev_var (i := 0) (x := kind_) rfl) (ev_con T.c_ADMIT))) : EvT K (W0 E) [iM kind_, iM body_] _ _)
    refine blk_seq (blk_if2 L trivial (by exact ht_) ?_ ?_)
    · have hr_ := ((ev_andV (ev_op opx_eqI mild_ok (ev_lenD (ev_var (i := 1) (x := body_) rfl)) (ev_int (i := 2))) (ev_andV (ev_call (f := (fun (p : D × Unit) => m_u_is_text p.1)) (ea_cons (ev_op opx_ixT (fun x y => idx_mild x.xs y) (ev_cast (f := D.asTu) asTu_ok asTu_x (ev_var (i := 1) (x := body_) rfl)) (ev_int (i := 0))) ea_nil)) (ev_andV (ev_isi isi_str (ev_op opx_ixT (fun x y => idx_mild x.xs y) (ev_cast (f := D.asTu) asTu_ok asTu_x (ev_var (i := 1) (x := body_) rfl)) (ev_int (i := 1)))) (ev_op (opx_inS false) mild_ok (ev_cast (f := D.asStr) asStr_ok asStr_x (ev_op opx_ixT (fun x y => idx_mild x.xs y) (ev_cast (f := D.asTu) asTu_ok asTu_x (ev_var (i := 1) (x := body_) rfl)) (ev_int (i := 1)))) (ev_as (ev_con T.c_RIGHTS) (fun (x : (T8 Str Str Str Str Str Str Str Str)) => Tu.mk [x.a, x.b, x.c, x.e, x.f, x.g, x.h, x.i]) (fun _ => rfl) rfl))))) : EvX K (W0 E) [iM kind_, iM body_] _ _)
      exact blk_ret L trivial (by exact hr_)
    · refine blk_nil ?_
      try refine Blk.nx ?_
      have ht_ := ((et_test (ev_op opx_eqS mild_ok (ev_var (i := 0) (x := kind_) rfl) (ev_con T.c_REPLACE))) : EvT K (W0 E) [iM kind_, iM body_] _ _)
      refine blk_seq (blk_if2 L trivial (by exact ht_) ?_ ?_)
      · have hr_ := ((ev_andV (ev_op opx_eqI mild_ok (ev_lenD (ev_var (i := 1) (x := body_) rfl)) (ev_int (i := 2))) (ev_andV (ev_call (f := (fun (p : D × Unit) => m_u_is_text p.1)) (ea_cons (ev_op opx_ixT (fun x y => idx_mild x.xs y) (ev_cast (f := D.asTu) asTu_ok asTu_x (ev_var (i := 1) (x := body_) rfl)) (ev_int (i := 0))) ea_nil)) (ev_call (f := (fun (p : D × Int × Unit) => m_u_is_byte_tuple p.1 p.2.1)) (ea_cons (ev_op opx_ixT (fun x y => idx_mild x.xs y) (ev_cast (f := D.asTu) asTu_ok asTu_x (ev_var (i := 1) (x := body_) rfl)) (ev_int (i := 1))) (ea_cons (ev_int (i := 256)) ea_nil))))) : EvX K (W0 E) [iM kind_, iM body_] _ _)
        exact blk_ret L trivial (by exact hr_)
      · refine blk_nil ?_
        try refine Blk.nx ?_
        have hr_ := ((ev_andV (ev_op opx_eqS mild_ok (ev_var (i := 0) (x := kind_) rfl) (ev_con T.c_WITHDRAW)) (ev_andV (ev_op opx_eqI mild_ok (ev_lenD (ev_var (i := 1) (x := body_) rfl)) (ev_int (i := 1))) (ev_call (f := (fun (p : D × Unit) => m_u_is_text p.1)) (ea_cons (ev_op opx_ixT (fun x y => idx_mild x.xs y) (ev_cast (f := D.asTu) asTu_ok asTu_x (ev_var (i := 1) (x := body_) rfl)) (ev_int (i := 0))) ea_nil)))) : EvX K (W0 E) [iM kind_, iM body_] _ _)
        exact blk_ret L trivial (by exact hr_)
noncomputable def m_is_entry (value_ : D) : Res Bool :=
  (((Res.need ((toD value_).plain = true) (Res.ok (isI "tuple" (toD value_)))).bind fun (t77 : Bool) => Res.ok (!t77)).bind fun b80 => cond b80 (Res.ok true) ((((Res.ok value_)).bind fun (t78 : D) => D.lenR t78).bind fun (t79 : Int) => Res.ok (!decide (t79 = (4 : Int))))).bind fun b => cond b   ((Res.ok false))   ((((Res.ok value_)).bind D.asT4).bind fun (u81 : (T4 D D D D)) =>   (fun (kind_ : D) (author_ : D) (body_ : D) (signature_ : D) => (((m_u_is_text author_).bind fun (t82 : Bool) => Res.ok (!t82)).bind fun b86 => cond b86 (Res.ok true) (((Res.need ((toD body_).plain = true) (Res.ok (isI "tuple" (toD body_)))).bind fun (t83 : Bool) => Res.ok (!t83)).bind fun b85 => cond b85 (Res.ok true) ((m_u_is_byte_tuple signature_ (256 : Int)).bind fun (t84 : Bool) => Res.ok (!t84)))).bind fun b => cond b   ((Res.ok false))   ((Res.need ((toD kind_).plain = true) (Res.ok (isI "str" (toD kind_)))).bind fun b90 => cond b90 (((((Res.ok kind_)).bind D.asStr).bind fun a87 => Res.ok (a87, (body_, ()))).bind fun p89 => m_u_is_body p89.1 p89.2.1) (Res.ok false))) u81.a u81.b u81.c u81.e)
theorem ok_is_entry {P : Program} {w : World} {K : PySem.W.Frag} {mg : Str → Option Value} {base : Heap} (T : Facts P w K mg) {fd : FuncData} (F : FnP K "is_entry" "is_entry" s_is_entry (He.ga K "is_entry") fd) :
    FnOk P w K mg base (L2.CX P w) 5 (He.ga K "is_entry") fd ["value"] (spM K (fun (p : D × Unit) => m_is_entry p.1)) := by
  obtain ⟨fd_u_is_body, F_u_is_body⟩ := T.d_u_is_body
  have G_u_is_body := ok_u_is_body (P := P) (w := w) (base := base) T F_u_is_body
  have b_u_is_body : Binds K fd_u_is_body ["kind", "body"] [] := F_u_is_body.bindsN fun _ _ _ _ _ _ us hl => match us, hl with | [_, _], _ => rfl
  obtain ⟨fd_u_is_byte_tuple, F_u_is_byte_tuple⟩ := T.d_u_is_byte_tuple
  have G_u_is_byte_tuple := ok_u_is_byte_tuple (P := P) (w := w) (base := base) T F_u_is_byte_tuple
  have b_u_is_byte_tuple : Binds K fd_u_is_byte_tuple ["value", "longest"] [] := F_u_is_byte_tuple.bindsN fun _ _ _ _ _ _ us hl => match us, hl with | [_, _], _ => rfl
  obtain ⟨fd_u_is_text, F_u_is_text⟩ := T.d_u_is_text
  have G_u_is_text := ok_u_is_text (P := P) (w := w) (base := base) T F_u_is_text
  have b_u_is_text : Binds K fd_u_is_text ["value"] [] := F_u_is_text.bindsN fun _ _ _ _ _ _ us hl => match us, hl with | [_], _ => rfl
  refine fn_ok F sc_is_entry (fun y => rfl) (fun cdv A outer s H E hr => ?_)
  refine ⟨_, (pss_cons (ps_if (PW.pt (pw_or (pt_not (pt_val (pe_callB call_isi (by rfl) T.n_isinstance (by decide +kernel) (pa_cons (pv 0) (pa_cons (pe_bltn (v := .ty "tuple") (by rfl) T.n_tuple (by decide +kernel) rfl) pa_nil))))) (pw_or1 (pt_cmpR op_ne (pe_callB (cr_len rfl) (by rfl) T.n_len (by decide +kernel) (pa_cons (pv 0) pa_nil)) pe_int (nomark _))))) (pss_one (ps_ret pe_bl)) pss_nil) (pss_cons (ps_asg (pv 0) (pg_tup rfl (pgs_cons (pg_name (i := 1) sc_is_entry.nd rfl (Or.inl rfl)) (pgs_cons (pg_name (i := 2) sc_is_entry.nd rfl (Or.inl rfl)) (pgs_cons (pg_name (i := 3) sc_is_entry.nd rfl (Or.inl rfl)) (pgs_cons (pg_name (i := 4) sc_is_entry.nd rfl (Or.inl rfl)) pgs_nil)))))) (pss_cons (ps_if (PW.pt (pw_or (pt_not (pt_val (pe_callS G_u_is_text (hr.mono (by decide)) rfl T.g_u_is_text F_u_is_text.kp b_u_is_text (fun σ => passAt (takes_of rfl rfl rfl rfl) σ) (pa_cons (pv 2) pa_nil)))) (pw_or (pt_not (pt_val (pe_callB call_isi (by rfl) T.n_isinstance (by decide +kernel) (pa_cons (pv 3) (pa_cons (pe_bltn (v := .ty "tuple") (by rfl) T.n_tuple (by decide +kernel) rfl) pa_nil))))) (pw_or1 (pt_not (pt_val (pe_callS G_u_is_byte_tuple (hr.mono (by decide)) rfl T.g_u_is_byte_tuple F_u_is_byte_tuple.kp b_u_is_byte_tuple (fun σ => passAt (takes_of rfl rfl rfl rfl) σ) (pa_cons (pv 4) (pa_cons (pe_glob (v := .int 256) rfl T.c_LONGEST_SIGNATURE.choose_spec ⟨_, rfl⟩) pa_nil))))))))) (pss_one (ps_ret pe_bl)) pss_nil) (pss_one (ps_ret (pe_and (pe_callB call_isi (by rfl) T.n_isinstance (by decide +kernel) (pa_cons (pv 1) (pa_cons (pe_bltn (v := .ty "str") (by rfl) T.n_str (by decide +kernel) rfl) pa_nil))) (pe_one (pe_callS G_u_is_body (hr.mono (by decide)) rfl T.g_u_is_body F_u_is_body.kp b_u_is_body (fun σ => passAt (takes_of rfl rfl rfl rfl) σ) (pa_cons (pv 1) (pa_cons (pv 3) pa_nil)))))))))), ?_⟩
  rintro ⟨value_, ⟨⟩⟩ F0 H0 Q KP L
  show Blk K F0 H0 KP _ [iM value_, none, none, none, none] (m_is_entry value_)
  unfold m_is_entry
  have ht_ := ((et_or (et_not (et_B (ev_isi isi_tuple (ev_var (i := 0) (x := value_) rfl)))) (et_test (ev_op opx_neI mild_ok (ev_lenD (ev_var (i := 0) (x := value_) rfl)) (ev_int (i := 4))))) : EvT K (W0 E) [iM value_, none, none, none, none] _ _)
  refine blk_seq (blk_if2 L trivial (by exact ht_) ?_ ?_)
  · have hr_ := ((ev_bl (b := false)) : EvX K (W0 E) [iM value_, none, none, none, none] _ _)
    exact blk_ret L trivial (by exact hr_)
  · refine blk_nil ?_
    try refine Blk.nx ?_
    have hs_ := ((ev_cast (f := D.asT4) asT4_ok asT4_x (ev_var (i := 0) (x := value_) rfl)) : EvX K (W0 E) [iM value_, none, none, none, none] _ _)
    refine blk_seq (blk_asg L trivial (by exact hs_) (fun _ => (gx_tup (n := 4) (gxs_cons gx_name (gxs_cons gx_name (gxs_cons gx_name (gxs_cons gx_name gxs_nil)))) rfl)) fun u81 => ?_)
    show Blk _ _ _ _ _ [iM value_, iM u81.a, iM u81.b, iM u81.c, iM u81.e] ((fun (kind_ : D) (author_ : D) (body_ : D) (signature_ : D) => _) u81.a u81.b u81.c u81.e)
    generalize u81.a = kind_
    generalize u81.b = author_
    generalize u81.c = body_
    generalize u81.e = signature_
    show Blk _ _ _ _ _ [iM value_, iM kind_, iM author_, iM body_, iM signature_] _
    try refine Blk.nx ?_
    have ht_ := ((et_or (et_not (et_B (ev_call (f := (fun (p : D × Unit) => m_u_is_text p.1)) (ea_cons (ev_var (i := 2) (x := author_) rfl) ea_nil)))) (et_or (et_not (et_B (ev_isi isi_tuple (ev_var (i := 3) (x := body_) rfl)))) (et_not (et_B (ev_call (f := (fun (p : D × Int × Unit) => m_u_is_byte_tuple p.1 p.2.1)) (ea_cons (ev_var (i := 4) (x := signature_) rfl) (ea_cons (ev_int (i := 256)) ea_nil))))))) : EvT K (W0 E) [iM value_, iM kind_, iM author_, iM body_, iM signature_] _ _)
    refine blk_seq (blk_if2 L trivial (by exact ht_) ?_ ?_)
    · have hr_ := ((ev_bl (b := false)) : EvX K (W0 E) [iM value_, iM kind_, iM author_, iM body_, iM signature_] _ _)
      exact blk_ret L trivial (by exact hr_)
    · refine blk_nil ?_
      try refine Blk.nx ?_
      have hr_ := ((ev_andV (ev_isi isi_str (ev_var (i := 1) (x := kind_) rfl)) (ev_call (f := (fun (p : Str × D × Unit) => m_u_is_body p.1 p.2.1)) (ea_cons (ev_cast (f := D.asStr) asStr_ok asStr_x (ev_var (i := 1) (x := kind_) rfl)) (ea_cons (ev_var (i := 3) (x := body_) rfl) ea_nil)))) : EvX K (W0 E) [iM value_, iM kind_, iM author_, iM body_, iM signature_] _ _)
      exact blk_ret L trivial (by exact hr_)
noncomputable def m_pack (parts_ : (List (List Int))) : Res (List Int) :=
  ((Res.ok parts_)).bind fun (xs94 : List (List Int)) => ((compL2 (fun (x91 : (List Int)) => ((m_to_big ((x91).length : Int) (3 : Int)).noexc).bind fun (t93 : (List Int)) => Res.need (t93.length + x91.length ≤ 16777216) (Res.ok (t93 ++ x91))) (fun (x91 : (List Int)) (y92 : Int) => (Res.ok y92)) xs94).noexc).bind fun (zs95 : List Int) => Res.need (zs95.length ≤ 16777216) (Res.ok zs95)
theorem ok_pack {P : Program} {w : World} {K : PySem.W.Frag} {mg : Str → Option Value} {base : Heap} (T : Facts P w K mg) {fd : FuncData} (F : FnP K "pack" "pack" s_pack (He.ga K "pack") fd) :
    FnOk P w K mg base (L2.CX P w) 3 (He.ga K "pack") fd ["parts"] (spM K (fun (p : (List (List Int)) × Unit) => m_pack p.1)) := by
  obtain ⟨fd_to_big, F_to_big⟩ := T.d_to_big
  have G_to_big := ok_to_big (P := P) (w := w) (base := base) T F_to_big
  have b_to_big : Binds K fd_to_big ["number", "size"] [] := F_to_big.bindsN fun _ _ _ _ _ _ us hl => match us, hl with | [_, _], _ => rfl
  refine fn_ok F sc_pack (fun y => rfl) (fun cdv A outer s H E hr => ?_)
  refine ⟨_, (pss_one (ps_ret (pe_lc2 (own := [("part", 1), ("byte", 2)]) (vs1 := [2]) rfl sc_pack.nd (pi_list (pv 0)) (blkOk_by (own := [("part", 1), ("byte", 2)]) (N := ["parts", "part", "byte"]) (sc := defScope s_pack) (by decide +kernel)) (by decide) (fun _ _ _ _ _ => (pg_name (i := 1) sc_pack.nd rfl (Or.inl rfl))) (fun _ _ _ _ _ => pts_nil) (fun _ _ _ _ _ => (pi_listK rfl (pe_op op_cat (pe_call G_to_big (hr.mono (by decide)) rfl T.g_to_big F_to_big.kp b_to_big .nil passL (pa_cons (pe_callB (cr_len rfl) (by rfl) T.n_len (by decide +kernel) (pa_cons (pv 1) pa_nil)) (pa_cons pe_int pa_nil))) (pe_callTy (T := "list") (cr_listof rfl) (by rfl) T.n_list (by decide +kernel) (pa_cons (pv 1) pa_nil))))) (fun _ _ _ _ _ => (pg_name (i := 2) sc_pack.nd rfl (Or.inl rfl))) (fun _ _ _ _ _ => pts_nil) (fun _ _ _ _ _ => (pv 2))))), ?_⟩
  rintro ⟨parts_, ⟨⟩⟩ F0 H0 Q KP L
  show Blk K F0 H0 KP _ [iM parts_, none, none] (m_pack parts_)
  unfold m_pack
  have hr_ := ((ev_ofN (ev_comp2 (it := fun (x91 : (List Int)) => ((m_to_big ((x91).length : Int) (3 : Int)).noexc).bind fun (t93 : (List Int)) => Res.need (t93.length + x91.length ≤ 16777216) (Res.ok (t93 ++ x91))) (el := fun (x91 : (List Int)) (y92 : Int) => (Res.ok y92)) (ws := [1, 2]) (ws1 := [2]) (ei_list (ev_var (i := 0) (x := parts_) rfl)) (fun _ => gx_weak (ws0 := [1]) gx_name (by decide)) (fun x91 => ((ei_list (ev_ofN (en_cat (ev_call0 (f := (fun (p : Int × Int × Unit) => m_to_big p.1 p.2.1)) (ea_cons (ev_cb cx_len (fun _ _ h => nomatch h) (ea_cons (ev_var (i := 1) (x := x91) rfl) ea_nil)) (ea_cons (ev_int (i := 3)) ea_nil))) (ev_ofN (en_list (ev_var (i := 1) (x := x91) rfl)))))) : EvI K WT [iM parts_, iM x91, none] _ _)) (fun _ _ => gx_name) (fun x91 y92 => ((ev_var (i := 2) (x := y92) rfl) : EvX K WT [iM parts_, iM x91, iM y92] _ _)) (fun _ => (own_stE own_unset)))) : EvX K (W0 E) [iM parts_, none, none] _ _)
  exact blk_ret L trivial (by exact hr_)
noncomputable def m_u_law_cell (script_ : (Ro Int)) (k_ : Int) : Res Int :=
  ((Res.ok (decide (k_ < ((script_).xs.length : Int))))).bind fun b => cond b   (((idx (script_).xs k_).bind fun a96 => Res.ok (a96, ())).bind fun p98 => Res.ok p98.1)   ((Res.ok (0 : Int)))
theorem ok_u_law_cell {P : Program} {w : World} {K : PySem.W.Frag} {mg : Str → Option Value} {base : Heap} (T : Facts P w K mg) {fd : FuncData} (F : FnP K "_law_cell" "_law_cell" s_u_law_cell (He.ga K "_law_cell") fd) :
    FnOk P w K mg base (L2.CX P w) 1 (He.ga K "_law_cell") fd ["script", "k"] (spM K (fun (p : (Ro Int) × Int × Unit) => m_u_law_cell p.1 p.2.1)) := by
  refine fn_ok F sc_u_law_cell (fun y => rfl) (fun cdv A outer s H E hr => ?_)
  refine ⟨_, (pss_cons (ps_if (pt_cmpR op_lt (pv 1) (pe_callB (cr_len rfl) (by rfl) T.n_len (by decide +kernel) (pa_cons (pv 0) pa_nil)) (nomark _)) (pss_one (ps_ret (pe_callTy call_int1 (by rfl) T.n_int (by decide +kernel) (pa_cons (pe_ix (cr_ixL rfl) (pv 0) (pv 1) (fun _ _ => rfl)) pa_nil)))) pss_nil) (pss_one (ps_ret pe_int))), ?_⟩
  rintro ⟨script_, k_, ⟨⟩⟩ F0 H0 Q KP L
  show Blk K F0 H0 KP _ [iM script_, iM k_] (m_u_law_cell script_ k_)
  unfold m_u_law_cell
  have ht_ := ((et_test (ev_op (opx_B0 (g := fun i j => decide (i < j))) mild_ok (ev_var (i := 1) (x := k_) rfl) (ev_cb cx_lenRo (fun _ _ h => nomatch h) (ea_cons (ev_var (i := 0) (x := script_) rfl) ea_nil)))) : EvT K (W0 E) [iM script_, iM k_] _ _)
  refine blk_seq (blk_if2 L trivial (by exact ht_) ?_ ?_)
  · have hr_ := ((ev_cb cx_int (fun _ _ h => nomatch h) (ea_cons (ev_op opx_ixR (fun x y => idx_mild x.xs y) (ev_var (i := 0) (x := script_) rfl) (ev_var (i := 1) (x := k_) rfl)) ea_nil)) : EvX K (W0 E) [iM script_, iM k_] _ _)
    exact blk_ret L trivial (by exact hr_)
  · refine blk_nil ?_
    try refine Blk.nx ?_
    have hr_ := ((ev_int (i := 0)) : EvX K (W0 E) [iM script_, iM k_] _ _)
    exact blk_ret L trivial (by exact hr_)
noncomputable def m_u_law_twice (cell_ : Int) (k_ : Int) : Res Int :=
  ((Res.ok ((((cell_ * (48271 : Int)) + (k_ * (69621 : Int))) + (7 : Int)) % (2147483647 : Int)))).bind fun (x_ : Int) =>   ((((Res.need (CMulX x_ x_) (Res.ok (x_ * x_))).bind fun (t99 : Int) => Res.ok (t99 + (k_ * (40692 : Int)))).bind fun (t100 : Int) => Res.ok (t100 + (3 : Int))).bind fun (t101 : Int) => Res.ok (t101 % (2147483629 : Int))).bind fun (x_ : Int) =>   ((((Res.need (CMulX x_ x_) (Res.ok (x_ * x_))).bind fun (t102 : Int) => Res.ok (t102 + (k_ * (30269 : Int)))).bind fun (t103 : Int) => Res.ok (t103 + (5 : Int))).bind fun (t104 : Int) => Res.ok (t104 % (2147483587 : Int))).bind fun (x_ : Int) =>   (Res.ok (x_ / (64 : Int)))
theorem ok_u_law_twice {P : Program} {w : World} {K : PySem.W.Frag} {mg : Str → Option Value} {base : Heap} (T : Facts P w K mg) {fd : FuncData} (F : FnP K "_law_twice" "_law_twice" s_u_law_twice (He.ga K "_law_twice") fd) :
    FnOk P w K mg base (L2.CX P w) 1 (He.ga K "_law_twice") fd ["cell", "k"] (spM K (fun (p : Int × Int × Unit) => m_u_law_twice p.1 p.2.1)) := by
  refine fn_ok F sc_u_law_twice (fun y => rfl) (fun cdv A outer s H E hr => ?_)
  refine ⟨_, (pss_cons (ps_set (i := 2) sc_u_law_twice.nd rfl (Or.inl rfl) (pe_op op_mod (pe_op op_add (pe_op op_add (pe_op op_mul (pe_callTy call_int1 (by rfl) T.n_int (by decide +kernel) (pa_cons (pv 0) pa_nil)) pe_int) (pe_op op_mul (pv 1) pe_int)) pe_int) pe_int)) (pss_cons (ps_set (i := 2) sc_u_law_twice.nd rfl (Or.inl rfl) (pe_op op_mod (pe_op op_add (pe_op op_add (pe_op op_mulX (pv 2) (pv 2)) (pe_op op_mul (pv 1) pe_int)) pe_int) pe_int)) (pss_cons (ps_set (i := 2) sc_u_law_twice.nd rfl (Or.inl rfl) (pe_op op_mod (pe_op op_add (pe_op op_add (pe_op op_mulX (pv 2) (pv 2)) (pe_op op_mul (pv 1) pe_int)) pe_int) pe_int)) (pss_one (ps_ret (pe_op op_fdiv (pv 2) pe_int)))))), ?_⟩
  rintro ⟨cell_, k_, ⟨⟩⟩ F0 H0 Q KP L
  show Blk K F0 H0 KP _ [iM cell_, iM k_, none] (m_u_law_twice cell_ k_)
  unfold m_u_law_twice
  have hs_ := ((ev_opI (C := (fun _ j => 0 < j)) (g := fun i j => i % j) (fun x y _ h => by cases h; (show (0 : Int) < _; decide)) (ev_op (opx_I0 (g := fun i j => i + j)) mild_ok (ev_op (opx_I0 (g := fun i j => i + j)) mild_ok (ev_opI (C := CMul) (g := fun i j => i * j) (fun x y _ h => by cases h; exact .inr (by decide)) (ev_cb cx_int (fun _ _ h => nomatch h) (ea_cons (ev_var (i := 0) (x := cell_) rfl) ea_nil)) (ev_int (i := 48271))) (ev_opI (C := CMul) (g := fun i j => i * j) (fun x y _ h => by cases h; exact .inr (by decide)) (ev_var (i := 1) (x := k_) rfl) (ev_int (i := 69621)))) (ev_int (i := 7))) (ev_int (i := 2147483647))) : EvX K (W0 E) [iM cell_, iM k_, none] _ _)
  refine blk_seq (blk_set (i := 2) L trivial (by exact hs_) fun x_ => ?_)
  show Blk _ _ _ _ _ [iM cell_, iM k_, iM x_] _
  try refine Blk.nx ?_
  have hs_ := ((ev_opI (C := (fun _ j => 0 < j)) (g := fun i j => i % j) (fun x y _ h => by cases h; (show (0 : Int) < _; decide)) (ev_op (opx_I0 (g := fun i j => i + j)) mild_ok (ev_op (opx_I0 (g := fun i j => i + j)) mild_ok (ev_op (opx_I (C := CMulX) (g := fun i j => i * j)) mild_need (ev_var (i := 2) (x := x_) rfl) (ev_var (i := 2) (x := x_) rfl)) (ev_opI (C := CMul) (g := fun i j => i * j) (fun x y _ h => by cases h; exact .inr (by decide)) (ev_var (i := 1) (x := k_) rfl) (ev_int (i := 40692)))) (ev_int (i := 3))) (ev_int (i := 2147483629))) : EvX K (W0 E) [iM cell_, iM k_, iM x_] _ _)
  refine blk_seq (blk_set (i := 2) L trivial (by exact hs_) fun x_ => ?_)
  show Blk _ _ _ _ _ [iM cell_, iM k_, iM x_] _
  try refine Blk.nx ?_
  have hs_ := ((ev_opI (C := (fun _ j => 0 < j)) (g := fun i j => i % j) (fun x y _ h => by cases h; (show (0 : Int) < _; decide)) (ev_op (opx_I0 (g := fun i j => i + j)) mild_ok (ev_op (opx_I0 (g := fun i j => i + j)) mild_ok (ev_op (opx_I (C := CMulX) (g := fun i j => i * j)) mild_need (ev_var (i := 2) (x := x_) rfl) (ev_var (i := 2) (x := x_) rfl)) (ev_opI (C := CMul) (g := fun i j => i * j) (fun x y _ h => by cases h; exact .inr (by decide)) (ev_var (i := 1) (x := k_) rfl) (ev_int (i := 30269)))) (ev_int (i := 5))) (ev_int (i := 2147483587))) : EvX K (W0 E) [iM cell_, iM k_, iM x_] _ _)
  refine blk_seq (blk_set (i := 2) L trivial (by exact hs_) fun x_ => ?_)
  show Blk _ _ _ _ _ [iM cell_, iM k_, iM x_] _
  try refine Blk.nx ?_
  have hr_ := ((ev_opI (C := CDiv) (g := fun i j => i / j) (fun x y _ h => by cases h; exact ⟨by decide, by decide⟩) (ev_var (i := 2) (x := x_) rfl) (ev_int (i := 64))) : EvX K (W0 E) [iM cell_, iM k_, iM x_] _ _)
  exact blk_ret L trivial (by exact hr_)
noncomputable def m_u_law_bytes_l1 (cell_ : Int) (great_ : Bool) (k1 : Int × (List Int) → Res (Nw Int)) : List Int → Int × (List Int) → Res (Nw Int)
  | [], s => k1 s
  | x105 :: r1, (left_, data_) =>   (fun (k_ : Int) => (cond great_ ((Res.ok (decide ((0 : Int) < left_)))) (Res.ok false)).bind fun b => cond b   (((Res.ok (left_ % (256 : Int)))).bind fun (y106 : Int) => Res.need (data_.length < 16777216) ((fun (data_ : (List Int)) =>   ((Res.ok (left_ / (256 : Int)))).bind fun (left_ : Int) =>   m_u_law_bytes_l1 cell_ great_ k1 r1 (left_, data_)) (data_ ++ [y106])))   (((m_u_law_twice cell_ k_).bind fun (t108 : Int) => Res.ok (t108 % (256 : Int))).bind fun (y109 : Int) => Res.need (data_.length < 16777216) ((fun (data_ : (List Int)) =>   m_u_law_bytes_l1 cell_ great_ k1 r1 (left_, data_)) (data_ ++ [y109])))) x105
noncomputable def m_u_law_bytes_k2 : Int × (List Int) → Res (Nw Int) := fun (left_, data_) =>   Res.ok (Nw.mk data_)
noncomputable def m_u_law_bytes (cell_ : Int) (size_ : Int) : Res (Nw Int) :=
  ((Res.ok (Int.natAbs cell_ : Int))).bind fun (left_ : Int) =>   ((Res.ok (decide (((10 : Int) ^ (18 : Int).toNat) ≤ left_)))).bind fun (great_ : Bool) =>   ((Res.ok ([] : List Int))).bind fun (data_ : (List Int)) =>   (Res.need (okRange size_) (Res.ok (pyRange 0 size_))).bind fun (xs111 : List Int) => m_u_law_bytes_l1 cell_ great_ (m_u_law_bytes_k2) xs111 (left_, data_)
theorem ok_u_law_bytes {P : Program} {w : World} {K : PySem.W.Frag} {mg : Str → Option Value} {base : Heap} (T : Facts P w K mg) {fd : FuncData} (F : FnP K "_law_bytes" "_law_bytes" s_u_law_bytes (He.ga K "_law_bytes") fd) :
    FnOk P w K mg base (L2.CX P w) 2 (He.ga K "_law_bytes") fd ["cell", "size"] (spW K (fun (p : Int × Int × Unit) => m_u_law_bytes p.1 p.2.1)) := by
  obtain ⟨fd_u_law_twice, F_u_law_twice⟩ := T.d_u_law_twice
  have G_u_law_twice := ok_u_law_twice (P := P) (w := w) (base := base) T F_u_law_twice
  have b_u_law_twice : Binds K fd_u_law_twice ["cell", "k"] [] := F_u_law_twice.bindsN fun _ _ _ _ _ _ us hl => match us, hl with | [_, _], _ => rfl
  refine fn_okW F sc_u_law_bytes (fun y => rfl) (fun cdv A outer s H E hr => ?_)
  refine ⟨_, (pss_cons (ps_set (i := 2) sc_u_law_bytes.nd rfl (Or.inl rfl) (pe_callB call_abs (by rfl) T.n_abs (by decide +kernel) (pa_cons (pe_callTy call_int1 (by rfl) T.n_int (by decide +kernel) (pa_cons (pv 0) pa_nil)) pa_nil))) (pss_cons (ps_set (i := 3) sc_u_law_bytes.nd rfl (Or.inl rfl) (pe_cmpR op_ge (pv 2) (pe_op op_pow pe_int pe_int) (nomark _))) (pss_cons (ps_set (i := 4) sc_u_law_bytes.nd rfl (Or.inl rfl) (pe_lst pa_nil)) (pss_cons (ps_for (passes_of rfl) rfl (pi_range1 rfl T.n_range (pa_cons (pv 1) pa_nil)) (pg_name (i := 5) sc_u_law_bytes.nd rfl (Or.inl rfl)) (pss_one (ps_if (PW.pt (pw_and (pt_val (pv 3)) (pw_and1 (pt_cmpR op_gt (pv 2) pe_int (nomark _))))) (pss_cons (ps_expr (pe_bm PySem.F.plainAttrs_list PySem.F.slot_list_append PySem.F.type_list_append mt_append (pv 4) (pa_cons (pe_op op_mod (pv 2) pe_int) pa_nil))) (pss_one (ps_set (i := 2) sc_u_law_bytes.nd rfl (Or.inl rfl) (pe_op op_fdiv (pv 2) pe_int)))) (pss_one (ps_expr (pe_bm PySem.F.plainAttrs_list PySem.F.slot_list_append PySem.F.type_list_append mt_append (pv 4) (pa_cons (pe_op op_mod (pe_callS G_u_law_twice (hr.mono (by decide)) rfl T.g_u_law_twice F_u_law_twice.kp b_u_law_twice (fun σ => passAt (takes_of rfl rfl rfl rfl) σ) (pa_cons (pv 0) (pa_cons (pv 5) pa_nil))) pe_int) pa_nil))))))) (pss_one (ps_ret (pv 4))))))), ?_⟩
  rintro ⟨cell_, size_, ⟨⟩⟩ F0 H0 Q KP L
  show Blk K F0 H0 KP _ [iM cell_, iM size_, none, none, none, none] (m_u_law_bytes cell_ size_)
  unfold m_u_law_bytes
  have hs_ := ((ev_cb cx_abs (fun _ _ h => nomatch h) (ea_cons (ev_cb cx_int (fun _ _ h => nomatch h) (ea_cons (ev_var (i := 0) (x := cell_) rfl) ea_nil)) ea_nil)) : EvX K (W0 E) [iM cell_, iM size_, none, none, none, none] _ _)
  refine blk_seq (blk_set (i := 2) L trivial (by exact hs_) fun left_ => ?_)
  show Blk _ _ _ _ _ [iM cell_, iM size_, iM left_, none, none, none] _
  try refine Blk.nx ?_
  have hs_ := ((ev_op (opx_B0 (g := fun i j => decide (j ≤ i))) mild_ok (ev_var (i := 2) (x := left_) rfl) (ev_opI (C := CPow) (g := fun i j => i ^ j.toNat) (fun x y h1 h2 => by cases h1; cases h2; exact ⟨by decide, by decide, by decide⟩) (ev_int (i := 10)) (ev_int (i := 18)))) : EvX K (W0 E) [iM cell_, iM size_, iM left_, none, none, none] _ _)
  refine blk_seq (blk_set (i := 3) L trivial (by exact hs_) fun great_ => ?_)
  show Blk _ _ _ _ _ [iM cell_, iM size_, iM left_, iM great_, none, none] _
  try refine Blk.nx ?_
  have hs_ := ((en_lst (f := (fun y => ([] : List Int))) ea_nil (fun _ => rfl) (fun _ => by show 0 ≤ 100000; decide)) : EvN K (W0 E) [iM cell_, iM size_, iM left_, iM great_, none, none] _ _)
  refine blk_seq (blk_own (i := 4) L trivial (by exact hs_) fun data_ => ?_)
  show Blk _ _ _ _ _ [iM cell_, iM size_, iM left_, iM great_, oW data_, none] _
  try refine Blk.nx ?_
  have hi_ := ((ei_range1 (ev_var (i := 1) (x := size_) rfl)) : EvI K (W0 E) [iM cell_, iM size_, iM left_, iM great_, oW data_, none] _ _)
  refine blk_seq (blk_for (S := Int × (List Int)) (m_u_law_bytes_l1 cell_ great_ (m_u_law_bytes_k2)) (m_u_law_bytes_k2) (fun (left_, data_) => [iM cell_, iM size_, iM left_, iM great_, oW data_, none]) (left_, data_) L trivial (by exact hi_) (fun _ => gx_name) (.same (.same (.same (.same (.same (.same .nil)))))) (fun _ => rfl) ?_ ?_)
  · intro F1 L1 hB1 x105 r1 s_ N_ hN1
    obtain ⟨left_, data_⟩ := s_
    show Blk _ _ _ _ _ [iM cell_, iM size_, iM left_, iM great_, oW data_, iM x105] (m_u_law_bytes_l1 cell_ great_ (m_u_law_bytes_k2) (x105 :: r1) (left_, data_))
    rw [m_u_law_bytes_l1]
    show Blk _ _ _ _ _ _ ((fun (k_ : Int) => _) x105)
    generalize x105 = k_
    show Blk _ _ _ _ _ [iM cell_, iM size_, iM left_, iM great_, oW data_, iM k_] _
    have ht_ := ((et_and (et_B (ev_var (i := 3) (x := great_) rfl)) (et_test (ev_op (opx_B0 (g := fun i j => decide (j < i))) mild_ok (ev_var (i := 2) (x := left_) rfl) (ev_int (i := 0))))) : EvT K (W0 E) [iM cell_, iM size_, iM left_, iM great_, oW data_, iM k_] _ _)
    refine blk_if2 L1 trivial (by exact ht_) ?_ ?_
    · have hs_ := ((ev_opI (C := (fun _ j => 0 < j)) (g := fun i j => i % j) (fun x y _ h => by cases h; (show (0 : Int) < _; decide)) (ev_var (i := 2) (x := left_) rfl) (ev_int (i := 256))) : EvX K (W0 E) [iM cell_, iM size_, iM left_, iM great_, oW data_, iM k_] _ _)
      refine blk_seq (blk_app (i := 4) (xs := data_) L1 trivial rfl (by exact hs_) fun y107 => ?_)
      show Blk _ _ _ _ _ [iM cell_, iM size_, iM left_, iM great_, oW ((data_ ++ [y107])), iM k_] ((fun (data_ : (List Int)) => _) (data_ ++ [y107]))
      generalize data_ ++ [y107] = data_
      show Blk _ _ _ _ _ [iM cell_, iM size_, iM left_, iM great_, oW data_, iM k_] _
      try refine Blk.nx ?_
      have hs_ := ((ev_opI (C := CDiv) (g := fun i j => i / j) (fun x y _ h => by cases h; exact ⟨by decide, by decide⟩) (ev_var (i := 2) (x := left_) rfl) (ev_int (i := 256))) : EvX K (W0 E) [iM cell_, iM size_, iM left_, iM great_, oW data_, iM k_] _ _)
      refine blk_set (i := 2) L1 trivial (by exact hs_) fun left_ => ?_
      show Blk _ _ _ _ _ [iM cell_, iM size_, iM left_, iM great_, oW data_, iM k_] _
      try refine Blk.nx ?_
      exact (hN1 (left_, data_)).weak (.same (.same (.same (.same (.same (.drop .nil))))))
    · have hs_ := ((ev_opI (C := (fun _ j => 0 < j)) (g := fun i j => i % j) (fun x y _ h => by cases h; (show (0 : Int) < _; decide)) (ev_call (f := (fun (p : Int × Int × Unit) => m_u_law_twice p.1 p.2.1)) (ea_cons (ev_var (i := 0) (x := cell_) rfl) (ea_cons (ev_var (i := 5) (x := k_) rfl) ea_nil))) (ev_int (i := 256))) : EvX K (W0 E) [iM cell_, iM size_, iM left_, iM great_, oW data_, iM k_] _ _)
      refine blk_app (i := 4) (xs := data_) L1 trivial rfl (by exact hs_) fun y110 => ?_
      show Blk _ _ _ _ _ [iM cell_, iM size_, iM left_, iM great_, oW ((data_ ++ [y110])), iM k_] ((fun (data_ : (List Int)) => _) (data_ ++ [y110]))
      generalize data_ ++ [y110] = data_
      show Blk _ _ _ _ _ [iM cell_, iM size_, iM left_, iM great_, oW data_, iM k_] _
      try refine Blk.nx ?_
      exact (hN1 (left_, data_)).weak (.same (.same (.same (.same (.same (.drop .nil))))))
  · rintro ⟨left_, data_⟩
    show Blk _ _ _ _ _ [iM cell_, iM size_, iM left_, iM great_, oW data_, none] ((m_u_law_bytes_k2) (left_, data_))
    unfold m_u_law_bytes_k2
    try refine Blk.nx ?_
    exact blk_retWv (i := 4) (xs := data_) L rfl
noncomputable def m_u_law_integer (x_ : D) : Res Bool :=
  (Res.need ((toD x_).plain = true) (Res.ok (isI "int" (toD x_)))).bind fun b113 => cond b113 ((Res.need ((toD x_).plain = true) (Res.ok (isI "bool" (toD x_)))).bind fun (t112 : Bool) => Res.ok (!t112)) (Res.ok false)
theorem ok_u_law_integer {P : Program} {w : World} {K : PySem.W.Frag} {mg : Str → Option Value} {base : Heap} (T : Facts P w K mg) {fd : FuncData} (F : FnP K "_law_integer" "_law_integer" s_u_law_integer (He.ga K "_law_integer") fd) :
    FnOk P w K mg base (L2.CX P w) 1 (He.ga K "_law_integer") fd ["x"] (spM K (fun (p : D × Unit) => m_u_law_integer p.1)) := by
  refine fn_ok F sc_u_law_integer (fun y => rfl) (fun cdv A outer s H E hr => ?_)
  refine ⟨_, (pss_one (ps_ret (pe_and (pe_callB call_isi (by rfl) T.n_isinstance (by decide +kernel) (pa_cons (pv 0) (pa_cons (pe_bltn (v := .ty "int") (by rfl) T.n_int (by decide +kernel) rfl) pa_nil))) (pe_one (pe_not (pe_callB call_isi (by rfl) T.n_isinstance (by decide +kernel) (pa_cons (pv 0) (pa_cons (pe_bltn (v := .ty "bool") (by rfl) T.n_bool (by decide +kernel) rfl) pa_nil)))))))), ?_⟩
  rintro ⟨x_, ⟨⟩⟩ F0 H0 Q KP L
  show Blk K F0 H0 KP _ [iM x_] (m_u_law_integer x_)
  unfold m_u_law_integer
  have hr_ := ((ev_andV (ev_isi isi_int (ev_var (i := 0) (x := x_) rfl)) (ev_notV (ev_isi isi_bool (ev_var (i := 0) (x := x_) rfl)))) : EvX K (W0 E) [iM x_] _ _)
  exact blk_ret L trivial (by exact hr_)
noncomputable def m_u_law_is_list_l2 (k2 : Unit → Res Bool) : List (T2 D Int) → Unit → Res Bool
  | [], s => k2 s
  | x121 :: r2, _ =>   (fun (one_ : D) (other_ : Int) => (((m_u_law_integer one_).bind fun (t122 : Bool) => Res.ok (!t122)).bind fun b123 => cond b123 (Res.ok true) (Res.need ((toD one_).okq = true ∧ (toD other_).okq = true) (Res.ok (!pyEq (toD one_) (toD other_))))).bind fun b => cond b   ((Res.ok false))   (m_u_law_is_list_l2 k2 r2 ())) x121.a x121.b
noncomputable def m_u_law_is_list_k3 : Unit → Res Bool := fun _ =>   (Res.ok true)
noncomputable def m_u_law_is_list (found_ : D) (due_ : (List Int)) : Res Bool :=
  (((Res.need ((toD found_).plain = true) (Res.ok (isI "list" (toD found_)))).bind fun (t114 : Bool) => Res.ok (!t114)).bind fun b117 => cond b117 (Res.ok true) ((((Res.ok found_)).bind fun (t115 : D) => D.lenR t115).bind fun (t116 : Int) => Res.ok (!decide (t116 = ((due_).length : Int))))).bind fun b => cond b   ((Res.ok false))   ((((((Res.ok found_)).bind D.asList).bind fun a118 => Res.ok (a118, (due_, ()))).bind fun p120 => Res.ok (List.zipWith T2.mk p120.1 p120.2.1)).bind fun (xs124 : List (T2 D Int)) => m_u_law_is_list_l2 (m_u_law_is_list_k3) xs124 ())
theorem ok_u_law_is_list {P : Program} {w : World} {K : PySem.W.Frag} {mg : Str → Option Value} {base : Heap} (T : Facts P w K mg) {fd : FuncData} (F : FnP K "_law_is_list" "_law_is_list" s_u_law_is_list (He.ga K "_law_is_list") fd) :
    FnOk P w K mg base (L2.CX P w) 2 (He.ga K "_law_is_list") fd ["found", "due"] (spM K (fun (p : D × (List Int) × Unit) => m_u_law_is_list p.1 p.2.1)) := by
  obtain ⟨fd_u_law_integer, F_u_law_integer⟩ := T.d_u_law_integer
  have G_u_law_integer := ok_u_law_integer (P := P) (w := w) (base := base) T F_u_law_integer
  have b_u_law_integer : Binds K fd_u_law_integer ["x"] [] := F_u_law_integer.bindsN fun _ _ _ _ _ _ us hl => match us, hl with | [_], _ => rfl
  refine fn_ok F sc_u_law_is_list (fun y => rfl) (fun cdv A outer s H E hr => ?_)
  refine ⟨_, (pss_cons (ps_if (PW.pt (pw_or (pt_not (pt_val (pe_callB call_isi (by rfl) T.n_isinstance (by decide +kernel) (pa_cons (pv 0) (pa_cons (pe_bltn (v := .ty "list") (by rfl) T.n_list (by decide +kernel) rfl) pa_nil))))) (pw_or1 (pt_cmpR op_ne (pe_callB (cr_len rfl) (by rfl) T.n_len (by decide +kernel) (pa_cons (pv 0) pa_nil)) (pe_callB (cr_len rfl) (by rfl) T.n_len (by decide +kernel) (pa_cons (pv 1) pa_nil)) (nomark _))))) (pss_one (ps_ret pe_bl)) pss_nil) (pss_cons (ps_for (passes_of rfl) rfl (pi_zipK rfl rfl T.n_zip (pa_cons (pv 0) (pa_cons (pv 1) pa_nil))) (pg_tup rfl (pgs_cons (pg_name (i := 2) sc_u_law_is_list.nd rfl (Or.inl rfl)) (pgs_cons (pg_name (i := 3) sc_u_law_is_list.nd rfl (Or.inl rfl)) pgs_nil))) (pss_one (ps_if (PW.pt (pw_or (pt_not (pt_val (pe_callS G_u_law_integer (hr.mono (by decide)) rfl T.g_u_law_integer F_u_law_integer.kp b_u_law_integer (fun σ => passAt (takes_of rfl rfl rfl rfl) σ) (pa_cons (pv 2) pa_nil)))) (pw_or1 (pt_cmpR (op_neD (Room.units hr)) (pv 2) (pv 3) (nomark _))))) (pss_one (ps_ret pe_bl)) pss_nil))) (pss_one (ps_ret pe_bl)))), ?_⟩
  rintro ⟨found_, due_, ⟨⟩⟩ F0 H0 Q KP L
  show Blk K F0 H0 KP _ [iM found_, iM due_, none, none] (m_u_law_is_list found_ due_)
  unfold m_u_law_is_list
  have ht_ := ((et_or (et_not (et_B (ev_isi isi_list (ev_var (i := 0) (x := found_) rfl)))) (et_test (ev_op opx_neI mild_ok (ev_lenD (ev_var (i := 0) (x := found_) rfl)) (ev_cb cx_len (fun _ _ h => nomatch h) (ea_cons (ev_var (i := 1) (x := due_) rfl) ea_nil))))) : EvT K (W0 E) [iM found_, iM due_, none, none] _ _)
  refine blk_seq (blk_if2 L trivial (by exact ht_) ?_ ?_)
  · have hr_ := ((ev_bl (b := false)) : EvX K (W0 E) [iM found_, iM due_, none, none] _ _)
    exact blk_ret L trivial (by exact hr_)
  · refine blk_nil ?_
    try refine Blk.nx ?_
    have hi_ := ((ei_zip (ea_cons (ev_cast (f := D.asList) asList_ok asList_x (ev_var (i := 0) (x := found_) rfl)) (ea_cons (ev_var (i := 1) (x := due_) rfl) ea_nil))) : EvI K (W0 E) [iM found_, iM due_, none, none] _ _)
    refine blk_seq (blk_for (S := Unit) (m_u_law_is_list_l2 (m_u_law_is_list_k3)) (m_u_law_is_list_k3) (fun _ => [iM found_, iM due_, none, none]) () L trivial (by exact hi_) (fun _ => (gx_tup (n := 2) (gxs_cons gx_name (gxs_cons gx_name gxs_nil)) rfl)) (.same (.same (.same (.same .nil)))) (fun _ => rfl) ?_ ?_)
    · intro F2 L2 hB2 x121 r2 s_ N_ hN2
      obtain ⟨⟩ := s_
      show Blk _ _ _ _ _ [iM found_, iM due_, iM x121.a, iM x121.b] (m_u_law_is_list_l2 (m_u_law_is_list_k3) (x121 :: r2) ())
      rw [m_u_law_is_list_l2]
      show Blk _ _ _ _ _ _ ((fun (one_ : D) (other_ : Int) => _) x121.a x121.b)
      generalize x121.a = one_
      generalize x121.b = other_
      show Blk _ _ _ _ _ [iM found_, iM due_, iM one_, iM other_] _
      have ht_ := ((et_or (et_not (et_B (ev_call (f := (fun (p : D × Unit) => m_u_law_integer p.1)) (ea_cons (ev_var (i := 2) (x := one_) rfl) ea_nil)))) (et_test (ev_op opx_neD mild_need (ev_var (i := 2) (x := one_) rfl) (ev_var (i := 3) (x := other_) rfl)))) : EvT K (W0 E) [iM found_, iM due_, iM one_, iM other_] _ _)
      refine blk_if2 L2 trivial (by exact ht_) ?_ ?_
      · have hr_ := ((ev_bl (b := false)) : EvX K (W0 E) [iM found_, iM due_, iM one_, iM other_] _ _)
        exact blk_ret L2 trivial (by exact hr_)
      · refine blk_nil ?_
        try refine Blk.nx ?_
        exact (hN2 ()).weak (.same (.same (.drop (.drop .nil))))
    · intro _
      show Blk _ _ _ _ _ [iM found_, iM due_, none, none] ((m_u_law_is_list_k3) ())
      unfold m_u_law_is_list_k3
      try refine Blk.nx ?_
      have hr_ := ((ev_bl (b := true)) : EvX K (W0 E) [iM found_, iM due_, none, none] _ _)
      exact blk_ret L trivial (by exact hr_)
noncomputable def m_u_law_text (cell_ : Int) : Res Str :=
  (((((((Res.need (RepT ("x" : Str) (600 : Int)) (Res.ok (repS ("x" : Str) (600 : Int)))).bind fun a131 => ((((Res.need (RepT ("y" : Str) (601 : Int)) (Res.ok (repS ("y" : Str) (601 : Int)))).bind fun a125 => Res.ok (a125, (("a\t" : Str), (("a\n" : Str), (("\nabc" : Str), ()))))).bind fun a128 => Res.ok ((" " : Str), a128)).bind fun a130 => Res.ok (("~" : Str), a130)).bind fun a132 => Res.ok (a131, a132)).bind fun a134 => Res.ok (("a b" : Str), a134)).bind fun a136 => Res.ok (("" : Str), a136)).bind fun a138 => Res.ok (("key" : Str), a138)).bind fun a140 => Res.ok (("eddsa-e13:0a:12345678" : Str), a140)).bind fun p141 => Res.ok ([p141.1, p141.2.1, p141.2.2.1, p141.2.2.2.1, p141.2.2.2.2.1, p141.2.2.2.2.2.1, p141.2.2.2.2.2.2.1, p141.2.2.2.2.2.2.2.1, p141.2.2.2.2.2.2.2.2.1, p141.2.2.2.2.2.2.2.2.2.1, p141.2.2.2.2.2.2.2.2.2.2.1] : List Str)).bind fun (texts_ : (List Str)) =>   ((Res.ok (decide ((0 : Int) < ((cell_ / (11 : Int)) % (4 : Int)))))).bind fun b => cond b   (idx texts_ (cell_ % (7 : Int)))   (idx texts_ (cell_ % (11 : Int)))
theorem ok_u_law_text {P : Program} {w : World} {K : PySem.W.Frag} {mg : Str → Option Value} {base : Heap} (T : Facts P w K mg) {fd : FuncData} (F : FnP K "_law_text" "_law_text" s_u_law_text (He.ga K "_law_text") fd) :
    FnOk P w K mg base (L2.CX P w) 1 (He.ga K "_law_text") fd ["cell"] (spM K (fun (p : Int × Unit) => m_u_law_text p.1)) := by
  refine fn_ok F sc_u_law_text (fun y => rfl) (fun cdv A outer s H E hr => ?_)
  refine ⟨_, (pss_cons (ps_set (i := 1) sc_u_law_text.nd rfl (Or.inl rfl) (pe_lst (pa_cons pe_str (pa_cons pe_str (pa_cons pe_str (pa_cons pe_str (pa_cons (pe_op op_repT pe_str pe_int) (pa_cons pe_str (pa_cons pe_str (pa_cons (pe_op op_repT pe_str pe_int) (pa_cons pe_str (pa_cons pe_str (pa_cons pe_str pa_nil))))))))))))) (pss_cons (ps_if (pt_cmpR op_gt (pe_op op_mod (pe_op op_fdiv (pv 0) pe_int) pe_int) pe_int (nomark _)) (pss_one (ps_ret (pe_ix (cr_ixL rfl) (pv 1) (pe_op op_mod (pv 0) pe_int) (fun _ _ => rfl)))) pss_nil) (pss_one (ps_ret (pe_ix (cr_ixL rfl) (pv 1) (pe_op op_mod (pv 0) pe_int) (fun _ _ => rfl)))))), ?_⟩
  rintro ⟨cell_, ⟨⟩⟩ F0 H0 Q KP L
  show Blk K F0 H0 KP _ [iM cell_, none] (m_u_law_text cell_)
  unfold m_u_law_text
  have hs_ := ((ev_ofN (en_lst (f := (fun y => ([y.1, y.2.1, y.2.2.1, y.2.2.2.1, y.2.2.2.2.1, y.2.2.2.2.2.1, y.2.2.2.2.2.2.1, y.2.2.2.2.2.2.2.1, y.2.2.2.2.2.2.2.2.1, y.2.2.2.2.2.2.2.2.2.1, y.2.2.2.2.2.2.2.2.2.2.1] : List Str))) (ea_cons (ev_str (x := "eddsa-e13:0a:12345678")) (ea_cons (ev_str (x := "key")) (ea_cons (ev_str (x := "")) (ea_cons (ev_str (x := "a b")) (ea_cons (ev_op opx_repT mild_need (ev_str (x := "x")) (ev_int (i := 600))) (ea_cons (ev_str (x := "~")) (ea_cons (ev_str (x := " ")) (ea_cons (ev_op opx_repT mild_need (ev_str (x := "y")) (ev_int (i := 601))) (ea_cons (ev_str (x := "a\t")) (ea_cons (ev_str (x := "a\n")) (ea_cons (ev_str (x := "\nabc")) ea_nil))))))))))) (fun _ => rfl) (fun _ => by show 11 ≤ 100000; decide))) : EvX K (W0 E) [iM cell_, none] _ _)
  refine blk_seq (blk_set (i := 1) L trivial (by exact hs_) fun texts_ => ?_)
  show Blk _ _ _ _ _ [iM cell_, iM texts_] _
  try refine Blk.nx ?_
  have ht_ := ((et_test (ev_op (opx_B0 (g := fun i j => decide (j < i))) mild_ok (ev_opI (C := (fun _ j => 0 < j)) (g := fun i j => i % j) (fun x y _ h => by cases h; (show (0 : Int) < _; decide)) (ev_opI (C := CDiv) (g := fun i j => i / j) (fun x y _ h => by cases h; exact ⟨by decide, by decide⟩) (ev_var (i := 0) (x := cell_) rfl) (ev_int (i := 11))) (ev_int (i := 4))) (ev_int (i := 0)))) : EvT K (W0 E) [iM cell_, iM texts_] _ _)
  refine blk_seq (blk_if2 L trivial (by exact ht_) ?_ ?_)
  · have hr_ := ((ev_op opx_ixL (fun x y => idx_mild x y) (ev_var (i := 1) (x := texts_) rfl) (ev_opI (C := (fun _ j => 0 < j)) (g := fun i j => i % j) (fun x y _ h => by cases h; (show (0 : Int) < _; decide)) (ev_var (i := 0) (x := cell_) rfl) (ev_int (i := 7)))) : EvX K (W0 E) [iM cell_, iM texts_] _ _)
    exact blk_ret L trivial (by exact hr_)
  · refine blk_nil ?_
    try refine Blk.nx ?_
    have hr_ := ((ev_op opx_ixL (fun x y => idx_mild x y) (ev_var (i := 1) (x := texts_) rfl) (ev_opI (C := (fun _ j => 0 < j)) (g := fun i j => i % j) (fun x y _ h => by cases h; (show (0 : Int) < _; decide)) (ev_var (i := 0) (x := cell_) rfl) (ev_int (i := 11)))) : EvX K (W0 E) [iM cell_, iM texts_] _ _)
    exact blk_ret L trivial (by exact hr_)
noncomputable def m_u_law_data_k1  : (List D) → Res D := fun data_ =>   (Res.ok (toD (Tu.mk data_)))
noncomputable def m_u_law_data_k2  : (List D) → Res D := fun data_ =>   m_u_law_data_k1 data_
noncomputable def m_u_law_data (cell_ : Int) (most_ : Int) : Res D :=
  ((Res.need (CMulX (((cell_ / (9 : Int)) % (12 : Int)) % (4 : Int)) (if (decide (((cell_ / (9 : Int)) % (12 : Int)) < (4 : Int))) = true then (1 : Int) else 0)) (Res.ok ((((cell_ / (9 : Int)) % (12 : Int)) % (4 : Int)) * (if (decide (((cell_ / (9 : Int)) % (12 : Int)) < (4 : Int))) = true then (1 : Int) else 0)))).bind fun (t142 : Int) => idx ([(cell_ % (9 : Int)), most_, (most_ + (1 : Int)), (0 : Int)] : List Int) t142).bind fun (size_ : Int) =>   (((m_u_law_bytes (cell_ / (108 : Int)) size_).bind fun z => Res.ok z.xs).bind fun (t143 : (List Int)) => Res.ok (t143.map (toD : Int → D))).bind fun (data_ : (List D)) =>   (cond (decide (((cell_ / (108 : Int)) % (16 : Int)) = (1 : Int))) ((Res.ok (decide ((0 : Int) < size_)))) (Res.ok false)).bind fun b => cond b   ((idx ([(toD (256 : Int)), (toD (-(1 : Int))), (toD true), (toD ("a" : Str))] : List D) ((cell_ / (7 : Int)) % (4 : Int))).bind fun (y144 : D) => (Res.need (0 < size_) (Res.ok ((cell_ / (1728 : Int)) % size_))).bind fun (j145 : Int) => match ixN data_.length j145 with | some a146 => m_u_law_data_k2 (data_.set a146 y144) | none => Res.stuck)   (m_u_law_data_k1 data_)
theorem ok_u_law_data {P : Program} {w : World} {K : PySem.W.Frag} {mg : Str → Option Value} {base : Heap} (T : Facts P w K mg) {fd : FuncData} (F : FnP K "_law_data" "_law_data" s_u_law_data (He.ga K "_law_data") fd) :
    FnOk P w K mg base (L2.CX P w) 3 (He.ga K "_law_data") fd ["cell", "most"] (spM K (fun (p : Int × Int × Unit) => m_u_law_data p.1 p.2.1)) := by
  obtain ⟨fd_u_law_bytes, F_u_law_bytes⟩ := T.d_u_law_bytes
  have G_u_law_bytes := ok_u_law_bytes (P := P) (w := w) (base := base) T F_u_law_bytes
  have b_u_law_bytes : Binds K fd_u_law_bytes ["cell", "size"] [] := F_u_law_bytes.bindsN fun _ _ _ _ _ _ us hl => match us, hl with | [_, _], _ => rfl
  refine fn_ok F sc_u_law_data (fun y => rfl) (fun cdv A outer s H E hr => ?_)
  refine ⟨_, (pss_cons (ps_set (i := 2) sc_u_law_data.nd rfl (Or.inl rfl) (pe_ix (cr_ixL rfl) (pe_lst (pa_cons (pe_op op_mod (pv 0) pe_int) (pa_cons (pv 1) (pa_cons (pe_op op_add (pv 1) pe_int) (pa_cons pe_int pa_nil))))) (pe_op op_mulX (pe_op op_mod (pe_op op_mod (pe_op op_fdiv (pv 0) pe_int) pe_int) pe_int) (pe_callTy call_int1 (by rfl) T.n_int (by decide +kernel) (pa_cons (pe_cmpR op_lt (pe_op op_mod (pe_op op_fdiv (pv 0) pe_int) pe_int) pe_int (nomark _)) pa_nil))) (fun _ _ => rfl))) (pss_cons (ps_set (i := 3) sc_u_law_data.nd rfl (Or.inl rfl) (pe_callS G_u_law_bytes (hr.mono (by decide)) rfl T.g_u_law_bytes F_u_law_bytes.kp b_u_law_bytes (fun σ => passAt (takes_of rfl rfl rfl rfl) σ) (pa_cons (pe_op op_fdiv (pv 0) pe_int) (pa_cons (pv 2) pa_nil)))) (pss_cons (ps_if (PW.pt (pw_and (pt_cmpR op_eq (pe_op op_mod (pe_op op_fdiv (pv 0) pe_int) pe_int) pe_int (nomark _)) (pw_and1 (pt_cmpR op_gt (pv 2) pe_int (nomark _))))) (pss_one (ps_asg (pe_ix (cr_ixL rfl) (pe_lst (pa_cons pe_int (pa_cons (pe_un un_neg pe_int) (pa_cons pe_bl (pa_cons pe_str pa_nil))))) (pe_op op_mod (pe_op op_fdiv (pv 0) pe_int) pe_int) (fun _ _ => rfl)) (pg_sub (pv 3) (pe_op op_mod (pe_op op_fdiv (pv 0) pe_int) (pv 2)) set_list))) pss_nil) (pss_one (ps_ret (pe_callTy call_tuple_of (by rfl) T.n_tuple (by decide +kernel) (pa_cons (pv 3) pa_nil))))))), ?_⟩
  rintro ⟨cell_, most_, ⟨⟩⟩ F0 H0 Q KP L
  show Blk K F0 H0 KP _ [iM cell_, iM most_, none, none] (m_u_law_data cell_ most_)
  unfold m_u_law_data
  have hs_ := ((ev_op opx_ixL (fun x y => idx_mild x y) (ev_ofN (en_lst (f := (fun y => ([y.1, y.2.1, y.2.2.1, y.2.2.2.1] : List Int))) (ea_cons (ev_opI (C := (fun _ j => 0 < j)) (g := fun i j => i % j) (fun x y _ h => by cases h; (show (0 : Int) < _; decide)) (ev_var (i := 0) (x := cell_) rfl) (ev_int (i := 9))) (ea_cons (ev_var (i := 1) (x := most_) rfl) (ea_cons (ev_op (opx_I0 (g := fun i j => i + j)) mild_ok (ev_var (i := 1) (x := most_) rfl) (ev_int (i := 1))) (ea_cons (ev_int (i := 0)) ea_nil)))) (fun _ => rfl) (fun _ => by show 4 ≤ 100000; decide))) (ev_op (opx_I (C := CMulX) (g := fun i j => i * j)) mild_need (ev_opI (C := (fun _ j => 0 < j)) (g := fun i j => i % j) (fun x y _ h => by cases h; (show (0 : Int) < _; decide)) (ev_opI (C := (fun _ j => 0 < j)) (g := fun i j => i % j) (fun x y _ h => by cases h; (show (0 : Int) < _; decide)) (ev_opI (C := CDiv) (g := fun i j => i / j) (fun x y _ h => by cases h; exact ⟨by decide, by decide⟩) (ev_var (i := 0) (x := cell_) rfl) (ev_int (i := 9))) (ev_int (i := 12))) (ev_int (i := 4))) (ev_cb cx_intB (fun _ _ h => nomatch h) (ea_cons (ev_op (opx_B0 (g := fun i j => decide (i < j))) mild_ok (ev_opI (C := (fun _ j => 0 < j)) (g := fun i j => i % j) (fun x y _ h => by cases h; (show (0 : Int) < _; decide)) (ev_opI (C := CDiv) (g := fun i j => i / j) (fun x y _ h => by cases h; exact ⟨by decide, by decide⟩) (ev_var (i := 0) (x := cell_) rfl) (ev_int (i := 9))) (ev_int (i := 12))) (ev_int (i := 4))) ea_nil)))) : EvX K (W0 E) [iM cell_, iM most_, none, none] _ _)
  refine blk_seq (blk_set (i := 2) L trivial (by exact hs_) fun size_ => ?_)
  show Blk _ _ _ _ _ [iM cell_, iM most_, iM size_, none] _
  try refine Blk.nx ?_
  have hs_ := ((en_toD (ev_callW (f := (fun (p : Int × Int × Unit) => m_u_law_bytes p.1 p.2.1)) (ea_cons (ev_opI (C := CDiv) (g := fun i j => i / j) (fun x y _ h => by cases h; exact ⟨by decide, by decide⟩) (ev_var (i := 0) (x := cell_) rfl) (ev_int (i := 108))) (ea_cons (ev_var (i := 2) (x := size_) rfl) ea_nil)))) : EvN K (W0 E) [iM cell_, iM most_, iM size_, none] _ _)
  refine blk_seq (blk_own (i := 3) L trivial (by exact hs_) fun data_ => ?_)
  show Blk _ _ _ _ _ [iM cell_, iM most_, iM size_, oW data_] _
  try refine Blk.nx ?_
  have ht_ := ((et_and (et_test (ev_op opx_eqI mild_ok (ev_opI (C := (fun _ j => 0 < j)) (g := fun i j => i % j) (fun x y _ h => by cases h; (show (0 : Int) < _; decide)) (ev_opI (C := CDiv) (g := fun i j => i / j) (fun x y _ h => by cases h; exact ⟨by decide, by decide⟩) (ev_var (i := 0) (x := cell_) rfl) (ev_int (i := 108))) (ev_int (i := 16))) (ev_int (i := 1)))) (et_test (ev_op (opx_B0 (g := fun i j => decide (j < i))) mild_ok (ev_var (i := 2) (x := size_) rfl) (ev_int (i := 0))))) : EvT K (W0 E) [iM cell_, iM most_, iM size_, oW data_] _ _)
  refine blk_seq (blk_ifj (S := (List D)) (fun data_ => [iM cell_, iM most_, iM size_, iM data_]) m_u_law_data_k1 L trivial (by exact ht_) ?_ ?_ ?_)
  · intro data_
    show Blk _ _ _ _ _ [iM cell_, iM most_, iM size_, iM data_] (m_u_law_data_k1 data_)
    unfold m_u_law_data_k1
    try refine Blk.nx ?_
    have hr_ := ((ev_as (ev_tupleL (ev_var (i := 3) (x := data_) rfl)) toD (fun _ => rfl) rfl) : EvX K (W0 E) [iM cell_, iM most_, iM size_, iM data_] _ _)
    exact blk_ret L trivial (by exact hr_)
  · intro hk1
    have he_ := ((ev_op opx_ixL (fun x y => idx_mild x y) (ev_ofN (en_lst (f := (fun y => ([y.1, y.2.1, y.2.2.1, y.2.2.2.1] : List D))) (ea_cons (ev_as (ev_int (i := 256)) toD (fun _ => rfl) rfl) (ea_cons (ev_as (ev_un (g := fun i => -i) (ev_int (i := 1))) toD (fun _ => rfl) rfl) (ea_cons (ev_as (ev_bl (b := true)) toD (fun _ => rfl) rfl) (ea_cons (ev_as (ev_str (x := "a")) toD (fun _ => rfl) rfl) ea_nil)))) (fun _ => rfl) (fun _ => by show 4 ≤ 100000; decide))) (ev_opI (C := (fun _ j => 0 < j)) (g := fun i j => i % j) (fun x y _ h => by cases h; (show (0 : Int) < _; decide)) (ev_opI (C := CDiv) (g := fun i j => i / j) (fun x y _ h => by cases h; exact ⟨by decide, by decide⟩) (ev_var (i := 0) (x := cell_) rfl) (ev_int (i := 7))) (ev_int (i := 4)))) : EvX K (W0 E) [iM cell_, iM most_, iM size_, oW data_] _ _)
    have hi_ := ((ev_op (opx_I (C := (fun _ j => 0 < j)) (g := fun i j => i % j)) mild_need (ev_opI (C := CDiv) (g := fun i j => i / j) (fun x y _ h => by cases h; exact ⟨by decide, by decide⟩) (ev_var (i := 0) (x := cell_) rfl) (ev_int (i := 1728))) (ev_var (i := 2) (x := size_) rfl)) : EvX K (W0 E) [iM cell_, iM most_, iM size_, oW data_] _ _)
    refine blk_setI (i := 3) (xs := data_) (f := m_u_law_data_k2) L trivial rfl (by exact he_) (by exact hi_) fun data_ => ?_
    show Blk _ _ _ _ _ [iM cell_, iM most_, iM size_, oW data_] (m_u_law_data_k2 data_)
    unfold m_u_law_data_k2
    show Blk _ _ _ _ _ [iM cell_, iM most_, iM size_, oW data_] _
    try refine Blk.nx ?_
    refine blk_freeze 3 rfl ?_
    show Blk _ _ _ _ _ [iM cell_, iM most_, iM size_, iM data_] _
    exact (hk1 data_).weak (.same (.same (.same (.same .nil))))
  · intro hk1
    refine blk_nil ?_
    try refine Blk.nx ?_
    refine blk_freeze 3 rfl ?_
    show Blk _ _ _ _ _ [iM cell_, iM most_, iM size_, iM data_] _
    exact (hk1 data_).weak (.same (.same (.same (.same .nil))))
noncomputable def m_u_law_rights (cell_ : Int) : Res Str :=
  idx ([("asw" : Str), ("" : Str), ("a" : Str), ("s" : Str), ("w" : Str), ("as" : Str), ("aw" : Str), ("sw" : Str), ("sa" : Str), ("aa" : Str), ("b" : Str), ("asww" : Str)] : List Str) (cell_ % (12 : Int))
theorem ok_u_law_rights {P : Program} {w : World} {K : PySem.W.Frag} {mg : Str → Option Value} {base : Heap} (T : Facts P w K mg) {fd : FuncData} (F : FnP K "_law_rights" "_law_rights" s_u_law_rights (He.ga K "_law_rights") fd) :
    FnOk P w K mg base (L2.CX P w) 1 (He.ga K "_law_rights") fd ["cell"] (spM K (fun (p : Int × Unit) => m_u_law_rights p.1)) := by
  refine fn_ok F sc_u_law_rights (fun y => rfl) (fun cdv A outer s H E hr => ?_)
  refine ⟨_, (pss_one (ps_ret (pe_ix (cr_ixL rfl) (pe_lst (pa_cons pe_str (pa_cons pe_str (pa_cons pe_str (pa_cons pe_str (pa_cons pe_str (pa_cons pe_str (pa_cons pe_str (pa_cons pe_str (pa_cons pe_str (pa_cons pe_str (pa_cons pe_str (pa_cons pe_str pa_nil))))))))))))) (pe_op op_mod (pv 0) pe_int) (fun _ _ => rfl)))), ?_⟩
  rintro ⟨cell_, ⟨⟩⟩ F0 H0 Q KP L
  show Blk K F0 H0 KP _ [iM cell_] (m_u_law_rights cell_)
  unfold m_u_law_rights
  have hr_ := ((ev_op opx_ixL (fun x y => idx_mild x y) (ev_ofN (en_lst (f := (fun y => ([y.1, y.2.1, y.2.2.1, y.2.2.2.1, y.2.2.2.2.1, y.2.2.2.2.2.1, y.2.2.2.2.2.2.1, y.2.2.2.2.2.2.2.1, y.2.2.2.2.2.2.2.2.1, y.2.2.2.2.2.2.2.2.2.1, y.2.2.2.2.2.2.2.2.2.2.1, y.2.2.2.2.2.2.2.2.2.2.2.1] : List Str))) (ea_cons (ev_str (x := "asw")) (ea_cons (ev_str (x := "")) (ea_cons (ev_str (x := "a")) (ea_cons (ev_str (x := "s")) (ea_cons (ev_str (x := "w")) (ea_cons (ev_str (x := "as")) (ea_cons (ev_str (x := "aw")) (ea_cons (ev_str (x := "sw")) (ea_cons (ev_str (x := "sa")) (ea_cons (ev_str (x := "aa")) (ea_cons (ev_str (x := "b")) (ea_cons (ev_str (x := "asww")) ea_nil)))))))))))) (fun _ => rfl) (fun _ => by show 12 ≤ 100000; decide))) (ev_opI (C := (fun _ j => 0 < j)) (g := fun i j => i % j) (fun x y _ h => by cases h; (show (0 : Int) < _; decide)) (ev_var (i := 0) (x := cell_) rfl) (ev_int (i := 12)))) : EvX K (W0 E) [iM cell_] _ _)
  exact blk_ret L trivial (by exact hr_)
noncomputable def m_u_law_body (kind_ : Str) (cell_ : Int) : Res D :=
  ((Res.ok (kind_ == ("state" : Str)))).bind fun b => cond b   ((((m_u_law_data cell_ (1024 : Int)).bind fun a147 => Res.ok (a147, ())).bind fun p149 => Res.ok (T1.mk p149.1)).bind fun (x : (T1 D)) => Res.ok (toD x))   (((Res.ok (kind_ == ("withdraw" : Str)))).bind fun b => cond b   ((((m_u_law_text cell_).bind fun a150 => Res.ok (a150, ())).bind fun p152 => Res.ok (T1.mk p152.1)).bind fun (x : (T1 Str)) => Res.ok (toD x))   (((Res.ok (kind_ == ("admit" : Str)))).bind fun b => cond b   ((((m_u_law_text cell_).bind fun a155 => ((m_u_law_rights (cell_ / (50 : Int))).bind fun a153 => Res.ok (a153, ())).bind fun a156 => Res.ok (a155, a156)).bind fun p157 => Res.ok (T2.mk p157.1 p157.2.1)).bind fun (x : (T2 Str Str)) => Res.ok (toD x))   ((((m_u_law_text cell_).bind fun a160 => ((m_u_law_data (cell_ / (50 : Int)) (256 : Int)).bind fun a158 => Res.ok (a158, ())).bind fun a161 => Res.ok (a160, a161)).bind fun p162 => Res.ok (T2.mk p162.1 p162.2.1)).bind fun (x : (T2 Str D)) => Res.ok (toD x))))
theorem ok_u_law_body {P : Program} {w : World} {K : PySem.W.Frag} {mg : Str → Option Value} {base : Heap} (T : Facts P w K mg) {fd : FuncData} (F : FnP K "_law_body" "_law_body" s_u_law_body (He.ga K "_law_body") fd) :
    FnOk P w K mg base (L2.CX P w) 4 (He.ga K "_law_body") fd ["kind", "cell"] (spM K (fun (p : Str × Int × Unit) => m_u_law_body p.1 p.2.1)) := by
  obtain ⟨fd_u_law_data, F_u_law_data⟩ := T.d_u_law_data
  have G_u_law_data := ok_u_law_data (P := P) (w := w) (base := base) T F_u_law_data
  have b_u_law_data : Binds K fd_u_law_data ["cell", "most"] [] := F_u_law_data.bindsN fun _ _ _ _ _ _ us hl => match us, hl with | [_, _], _ => rfl
  obtain ⟨fd_u_law_rights, F_u_law_rights⟩ := T.d_u_law_rights
  have G_u_law_rights := ok_u_law_rights (P := P) (w := w) (base := base) T F_u_law_rights
  have b_u_law_rights : Binds K fd_u_law_rights ["cell"] [] := F_u_law_rights.bindsN fun _ _ _ _ _ _ us hl => match us, hl with | [_], _ => rfl
  obtain ⟨fd_u_law_text, F_u_law_text⟩ := T.d_u_law_text
  have G_u_law_text := ok_u_law_text (P := P) (w := w) (base := base) T F_u_law_text
  have b_u_law_text : Binds K fd_u_law_text ["cell"] [] := F_u_law_text.bindsN fun _ _ _ _ _ _ us hl => match us, hl with | [_], _ => rfl
  refine fn_ok F sc_u_law_body (fun y => rfl) (fun cdv A outer s H E hr => ?_)
  refine ⟨_, (pss_cons (ps_if (pt_cmpR op_eq (pv 0) pe_str (nomark _)) (pss_one (ps_ret (pe_tup (pa_cons (pe_callS G_u_law_data (hr.mono (by decide)) rfl T.g_u_law_data F_u_law_data.kp b_u_law_data (fun σ => passAt (takes_of rfl rfl rfl rfl) σ) (pa_cons (pv 1) (pa_cons pe_int pa_nil))) pa_nil)))) pss_nil) (pss_cons (ps_if (pt_cmpR op_eq (pv 0) pe_str (nomark _)) (pss_one (ps_ret (pe_tup (pa_cons (pe_callS G_u_law_text (hr.mono (by decide)) rfl T.g_u_law_text F_u_law_text.kp b_u_law_text (fun σ => passAt (takes_of rfl rfl rfl rfl) σ) (pa_cons (pv 1) pa_nil)) pa_nil)))) pss_nil) (pss_cons (ps_if (pt_cmpR op_eq (pv 0) pe_str (nomark _)) (pss_one (ps_ret (pe_tup (pa_cons (pe_callS G_u_law_text (hr.mono (by decide)) rfl T.g_u_law_text F_u_law_text.kp b_u_law_text (fun σ => passAt (takes_of rfl rfl rfl rfl) σ) (pa_cons (pv 1) pa_nil)) (pa_cons (pe_callS G_u_law_rights (hr.mono (by decide)) rfl T.g_u_law_rights F_u_law_rights.kp b_u_law_rights (fun σ => passAt (takes_of rfl rfl rfl rfl) σ) (pa_cons (pe_op op_fdiv (pv 1) pe_int) pa_nil)) pa_nil))))) pss_nil) (pss_one (ps_ret (pe_tup (pa_cons (pe_callS G_u_law_text (hr.mono (by decide)) rfl T.g_u_law_text F_u_law_text.kp b_u_law_text (fun σ => passAt (takes_of rfl rfl rfl rfl) σ) (pa_cons (pv 1) pa_nil)) (pa_cons (pe_callS G_u_law_data (hr.mono (by decide)) rfl T.g_u_law_data F_u_law_data.kp b_u_law_data (fun σ => passAt (takes_of rfl rfl rfl rfl) σ) (pa_cons (pe_op op_fdiv (pv 1) pe_int) (pa_cons pe_int pa_nil))) pa_nil)))))))), ?_⟩
  rintro ⟨kind_, cell_, ⟨⟩⟩ F0 H0 Q KP L
  show Blk K F0 H0 KP _ [iM kind_, iM cell_] (m_u_law_body kind_ cell_)
  unfold m_u_law_body
  have ht_ := ((et_test (ev_op opx_eqS mild_ok (ev_var (i := 0) (x := kind_) rfl) (ev_str (x := "state")))) : EvT K (W0 E) [iM kind_, iM cell_] _ _)
  refine blk_seq (blk_if2 L trivial (by exact ht_) ?_ ?_)
  · have hr_ := ((ev_as (ev_tup (f := (fun (y : D × Unit) => T1.mk y.1)) (ea_cons (ev_call (f := (fun (p : Int × Int × Unit) => m_u_law_data p.1 p.2.1)) (ea_cons (ev_var (i := 1) (x := cell_) rfl) (ea_cons (ev_int (i := 1024)) ea_nil))) ea_nil) (fun _ => rfl) (fun _ => by show 1 ≤ 100000; decide)) toD (fun _ => rfl) rfl) : EvX K (W0 E) [iM kind_, iM cell_] _ _)
    exact blk_ret L trivial (by exact hr_)
  · refine blk_nil ?_
    try refine Blk.nx ?_
    have ht_ := ((et_test (ev_op opx_eqS mild_ok (ev_var (i := 0) (x := kind_) rfl) (ev_str (x := "withdraw")))) : EvT K (W0 E) [iM kind_, iM cell_] _ _)
    refine blk_seq (blk_if2 L trivial (by exact ht_) ?_ ?_)
    · have hr_ := ((ev_as (ev_tup (f := (fun (y : Str × Unit) => T1.mk y.1)) (ea_cons (ev_call (f := (fun (p : Int × Unit) => m_u_law_text p.1)) (ea_cons (ev_var (i := 1) (x := cell_) rfl) ea_nil)) ea_nil) (fun _ => rfl) (fun _ => by show 1 ≤ 100000; decide)) toD (fun _ => rfl) rfl) : EvX K (W0 E) [iM kind_, iM cell_] _ _)
      exact blk_ret L trivial (by exact hr_)
    · refine blk_nil ?_
      try refine Blk.nx ?_
      have ht_ := ((et_test (ev_op opx_eqS mild_ok (ev_var (i := 0) (x := kind_) rfl) (ev_str (x := "admit")))) : EvT K (W0 E) [iM kind_, iM cell_] _ _)
      refine blk_seq (blk_if2 L trivial (by exact ht_) ?_ ?_)
      · have hr_ := ((ev_as (ev_tup (f := (fun (y : Str × Str × Unit) => T2.mk y.1 y.2.1)) (ea_cons (ev_call (f := (fun (p : Int × Unit) => m_u_law_text p.1)) (ea_cons (ev_var (i := 1) (x := cell_) rfl) ea_nil)) (ea_cons (ev_call (f := (fun (p : Int × Unit) => m_u_law_rights p.1)) (ea_cons (ev_opI (C := CDiv) (g := fun i j => i / j) (fun x y _ h => by cases h; exact ⟨by decide, by decide⟩) (ev_var (i := 1) (x := cell_) rfl) (ev_int (i := 50))) ea_nil)) ea_nil)) (fun _ => rfl) (fun _ => by show 2 ≤ 100000; decide)) toD (fun _ => rfl) rfl) : EvX K (W0 E) [iM kind_, iM cell_] _ _)
        exact blk_ret L trivial (by exact hr_)
      · refine blk_nil ?_
        try refine Blk.nx ?_
        have hr_ := ((ev_as (ev_tup (f := (fun (y : Str × D × Unit) => T2.mk y.1 y.2.1)) (ea_cons (ev_call (f := (fun (p : Int × Unit) => m_u_law_text p.1)) (ea_cons (ev_var (i := 1) (x := cell_) rfl) ea_nil)) (ea_cons (ev_call (f := (fun (p : Int × Int × Unit) => m_u_law_data p.1 p.2.1)) (ea_cons (ev_opI (C := CDiv) (g := fun i j => i / j) (fun x y _ h => by cases h; exact ⟨by decide, by decide⟩) (ev_var (i := 1) (x := cell_) rfl) (ev_int (i := 50))) (ea_cons (ev_int (i := 256)) ea_nil))) ea_nil)) (fun _ => rfl) (fun _ => by show 2 ≤ 100000; decide)) toD (fun _ => rfl) rfl) : EvX K (W0 E) [iM kind_, iM cell_] _ _)
        exact blk_ret L trivial (by exact hr_)
noncomputable def m_u_law_other (cell_ : Int) : Res D :=
  idx ([(toD ()), (toD (5 : Int)), (toD ([(1 : Int)] : List Int)), (toD ("text" : Str)), (toD (T0.mk )), (toD (T2.mk (1 : Int) (2 : Int))), (toD true), (D.dct [] [])] : List D) (cell_ % (8 : Int))
theorem ok_u_law_other {P : Program} {w : World} {K : PySem.W.Frag} {mg : Str → Option Value} {base : Heap} (T : Facts P w K mg) {fd : FuncData} (F : FnP K "_law_other" "_law_other" s_u_law_other (He.ga K "_law_other") fd) :
    FnOk P w K mg base (L2.CX P w) 1 (He.ga K "_law_other") fd ["cell"] (spM K (fun (p : Int × Unit) => m_u_law_other p.1)) := by
  refine fn_ok F sc_u_law_other (fun y => rfl) (fun cdv A outer s H E hr => ?_)
  refine ⟨_, (pss_one (ps_ret (pe_ix (cr_ixL rfl) (pe_lst (pa_cons pe_non (pa_cons pe_int (pa_cons (pe_lst (pa_cons pe_int pa_nil)) (pa_cons pe_str (pa_cons (pe_tup pa_nil) (pa_cons (pe_tup (pa_cons pe_int (pa_cons pe_int pa_nil))) (pa_cons pe_bl (pa_cons pe_dnewK pa_nil))))))))) (pe_op op_mod (pv 0) pe_int) (fun _ _ => rfl)))), ?_⟩
  rintro ⟨cell_, ⟨⟩⟩ F0 H0 Q KP L
  show Blk K F0 H0 KP _ [iM cell_] (m_u_law_other cell_)
  unfold m_u_law_other
  have hr_ := ((ev_op opx_ixL (fun x y => idx_mild x y) (ev_ofN (en_lst (f := (fun y => ([y.1, y.2.1, y.2.2.1, y.2.2.2.1, y.2.2.2.2.1, y.2.2.2.2.2.1, y.2.2.2.2.2.2.1, y.2.2.2.2.2.2.2.1] : List D))) (ea_cons (ev_as ev_non toD (fun _ => rfl) rfl) (ea_cons (ev_as (ev_int (i := 5)) toD (fun _ => rfl) rfl) (ea_cons (ev_as (ev_ofN (en_lst (f := (fun y => ([y.1] : List Int))) (ea_cons (ev_int (i := 1)) ea_nil) (fun _ => rfl) (fun _ => by show 1 ≤ 100000; decide))) toD (fun _ => rfl) rfl) (ea_cons (ev_as (ev_str (x := "text")) toD (fun _ => rfl) rfl) (ea_cons (ev_as (ev_tup (f := (fun (y : Unit) => T0.mk )) ea_nil (fun _ => rfl) (fun _ => by show 0 ≤ 100000; decide)) toD (fun _ => rfl) rfl) (ea_cons (ev_as (ev_tup (f := (fun (y : Int × Int × Unit) => T2.mk y.1 y.2.1)) (ea_cons (ev_int (i := 1)) (ea_cons (ev_int (i := 2)) ea_nil)) (fun _ => rfl) (fun _ => by show 2 ≤ 100000; decide)) toD (fun _ => rfl) rfl) (ea_cons (ev_as (ev_bl (b := true)) toD (fun _ => rfl) rfl) (ea_cons ev_dnil ea_nil)))))))) (fun _ => rfl) (fun _ => by show 8 ≤ 100000; decide))) (ev_opI (C := (fun _ j => 0 < j)) (g := fun i j => i % j) (fun x y _ h => by cases h; (show (0 : Int) < _; decide)) (ev_var (i := 0) (x := cell_) rfl) (ev_int (i := 8)))) : EvX K (W0 E) [iM cell_] _ _)
  exact blk_ret L trivial (by exact hr_)
noncomputable def m_u_law_value_k6  : (List D) → Res D := fun value_ =>   (Res.ok (toD (Tu.mk value_)))
noncomputable def m_u_law_value_k7  : (List D) → Res D := fun value_ =>   m_u_law_value_k6 value_
noncomputable def m_u_law_value_k4 (how_ : Int) : (List D) → Res D := fun value_ =>   ((Res.ok (decide (how_ = (4 : Int))))).bind fun b => cond b   ((Res.ok (toD value_)))   (((Res.ok (decide (how_ = (5 : Int))))).bind fun b => cond b   (((((idx value_ (2 : Int)).bind D.asTu).bind fun (t196 : (Tu D)) => Res.need (t196.xs ≠ [] ∧ ((fun (x : (T1 Int)) => Tu.mk [toD x.a]) (T1.mk (1 : Int))).xs ≠ [] ∧ t196.xs.length + ((fun (x : (T1 Int)) => Tu.mk [toD x.a]) (T1.mk (1 : Int))).xs.length ≤ 100000) (Res.ok (Tu.mk (t196.xs ++ ((fun (x : (T1 Int)) => Tu.mk [toD x.a]) (T1.mk (1 : Int))).xs)))).bind fun (x : (Tu D)) => Res.ok (toD x)).bind fun (y197 : D) => ((Res.ok (2 : Int))).bind fun (j198 : Int) => match ixN value_.length j198 with | some a199 => m_u_law_value_k7 (value_.set a199 y197) | none => Res.stuck)   (m_u_law_value_k6 value_))
noncomputable def m_u_law_value_k3 (how_ : Int) : (List D) → Res D := fun value_ =>   ((Res.ok (decide (how_ = (3 : Int))))).bind fun b => cond b   ((Res.need (value_.length + ([(toD (T0.mk ))] : List D).length ≤ 16777216) (Res.ok (value_ ++ ([(toD (T0.mk ))] : List D)))).bind fun (value_ : (List D)) =>   (m_u_law_value_k4 how_) value_)   ((m_u_law_value_k4 how_) value_)
noncomputable def m_u_law_value_k2 (how_ : Int) : (List D) → Res D := fun value_ =>   ((Res.ok (decide (how_ = (2 : Int))))).bind fun b => cond b   (((Res.ok (cutL value_ none (some (3 : Int))))).bind fun (value_ : (List D)) =>   (m_u_law_value_k3 how_) value_)   ((m_u_law_value_k3 how_) value_)
noncomputable def m_u_law_value_k8 (how_ : Int) : (List D) → Res D := fun value_ =>   (m_u_law_value_k2 how_) value_
noncomputable def m_u_law_value_k1 (script_ : (Ro Int)) (k_ : Int) (cell_ : Int) (kind_ : Str) : D → Res D := fun body_ =>   (((((((((m_u_law_cell script_ (((4 : Int) * k_) + (1 : Int))).bind fun a175 => Res.ok (a175, ())).bind fun p177 => Res.ok (Int.natAbs p177.1 : Int)).bind fun a178 => Res.ok (a178, ())).bind fun p180 => m_u_law_text p180.1).bind fun (x : Str) => Res.ok (toD x)).bind fun a191 => (((((((m_u_law_cell script_ (((4 : Int) * k_) + (3 : Int))).bind fun a181 => Res.ok (a181, ())).bind fun p183 => Res.ok (Int.natAbs p183.1 : Int)).bind fun a184 => Res.ok (a184, ((256 : Int), ()))).bind fun p186 => m_u_law_data p186.1 p186.2.1).bind fun a187 => Res.ok (a187, ())).bind fun a190 => Res.ok (body_, a190)).bind fun a192 => Res.ok (a191, a192)).bind fun a194 => Res.ok ((toD kind_), a194)).bind fun p195 => Res.ok ([p195.1, p195.2.1, p195.2.2.1, p195.2.2.2.1] : List D)).bind fun (value_ : (List D)) =>   ((Res.ok ((cell_ / (288 : Int)) % (12 : Int)))).bind fun (how_ : Int) =>   ((Res.ok (decide (how_ = (1 : Int))))).bind fun b => cond b   ((m_u_law_other (cell_ / (13824 : Int))).bind fun (y200 : D) => ((Res.ok ((cell_ / (3456 : Int)) % (4 : Int)))).bind fun (j201 : Int) => match ixN value_.length j201 with | some a202 => (m_u_law_value_k8 how_) (value_.set a202 y200) | none => Res.stuck)   ((m_u_law_value_k2 how_) value_)
noncomputable def m_u_law_value (script_ : (Ro Int)) (k_ : Int) : Res D :=
  (((m_u_law_cell script_ ((4 : Int) * k_)).bind fun a163 => Res.ok (a163, ())).bind fun p165 => Res.ok (Int.natAbs p165.1 : Int)).bind fun (cell_ : Int) =>   ((Res.need (0 < ((4 : Int) + ((cell_ / (6 : Int)) % (3 : Int)))) (Res.ok ((cell_ % (6 : Int)) % ((4 : Int) + ((cell_ / (6 : Int)) % (3 : Int)))))).bind fun (t166 : Int) => idx ([("state" : Str), ("admit" : Str), ("replace" : Str), ("withdraw" : Str), ("State" : Str), ("admits" : Str)] : List Str) t166).bind fun (kind_ : Str) =>   (((idx ([("state" : Str), ("admit" : Str), ("replace" : Str), ("withdraw" : Str)] : List Str) ((cell_ / (18 : Int)) % (4 : Int))).bind fun a172 => ((((m_u_law_cell script_ (((4 : Int) * k_) + (2 : Int))).bind fun a167 => Res.ok (a167, ())).bind fun p169 => Res.ok (Int.natAbs p169.1 : Int)).bind fun a170 => Res.ok (a170, ())).bind fun a173 => Res.ok (a172, a173)).bind fun p174 => m_u_law_body p174.1 p174.2.1).bind fun (body_ : D) =>   ((Res.ok (decide ((0 : Int) < ((cell_ / (72 : Int)) % (4 : Int)))))).bind fun b => cond b   (((((((m_u_law_cell script_ (((4 : Int) * k_) + (2 : Int))).bind fun a203 => Res.ok (a203, ())).bind fun p205 => Res.ok (Int.natAbs p205.1 : Int)).bind fun a206 => Res.ok (a206, ())).bind fun a209 => Res.ok (kind_, a209)).bind fun p210 => m_u_law_body p210.1 p210.2.1).bind fun (body_ : D) =>   (m_u_law_value_k1 script_ k_ cell_ kind_) body_)   ((m_u_law_value_k1 script_ k_ cell_ kind_) body_)
theorem ok_u_law_value {P : Program} {w : World} {K : PySem.W.Frag} {mg : Str → Option Value} {base : Heap} (T : Facts P w K mg) {fd : FuncData} (F : FnP K "_law_value" "_law_value" s_u_law_value (He.ga K "_law_value") fd) :
    FnOk P w K mg base (L2.CX P w) 5 (He.ga K "_law_value") fd ["script", "k"] (spM K (fun (p : (Ro Int) × Int × Unit) => m_u_law_value p.1 p.2.1)) := by
  obtain ⟨fd_u_law_body, F_u_law_body⟩ := T.d_u_law_body
  have G_u_law_body := ok_u_law_body (P := P) (w := w) (base := base) T F_u_law_body
  have b_u_law_body : Binds K fd_u_law_body ["kind", "cell"] [] := F_u_law_body.bindsN fun _ _ _ _ _ _ us hl => match us, hl with | [_, _], _ => rfl
  obtain ⟨fd_u_law_cell, F_u_law_cell⟩ := T.d_u_law_cell
  have G_u_law_cell := ok_u_law_cell (P := P) (w := w) (base := base) T F_u_law_cell
  have b_u_law_cell : Binds K fd_u_law_cell ["script", "k"] [] := F_u_law_cell.bindsN fun _ _ _ _ _ _ us hl => match us, hl with | [_, _], _ => rfl
  obtain ⟨fd_u_law_data, F_u_law_data⟩ := T.d_u_law_data
  have G_u_law_data := ok_u_law_data (P := P) (w := w) (base := base) T F_u_law_data
  have b_u_law_data : Binds K fd_u_law_data ["cell", "most"] [] := F_u_law_data.bindsN fun _ _ _ _ _ _ us hl => match us, hl with | [_, _], _ => rfl
  obtain ⟨fd_u_law_other, F_u_law_other⟩ := T.d_u_law_other
  have G_u_law_other := ok_u_law_other (P := P) (w := w) (base := base) T F_u_law_other
  have b_u_law_other : Binds K fd_u_law_other ["cell"] [] := F_u_law_other.bindsN fun _ _ _ _ _ _ us hl => match us, hl with | [_], _ => rfl
  obtain ⟨fd_u_law_text, F_u_law_text⟩ := T.d_u_law_text
  have G_u_law_text := ok_u_law_text (P := P) (w := w) (base := base) T F_u_law_text
  have b_u_law_text : Binds K fd_u_law_text ["cell"] [] := F_u_law_text.bindsN fun _ _ _ _ _ _ us hl => match us, hl with | [_], _ => rfl
  refine fn_ok F sc_u_law_value (fun y => rfl) (fun cdv A outer s H E hr => ?_)
  refine ⟨_, (pss_cons (ps_set (i := 2) sc_u_law_value.nd rfl (Or.inl rfl) (pe_callB call_abs (by rfl) T.n_abs (by decide +kernel) (pa_cons (pe_callS G_u_law_cell (hr.mono (by decide)) rfl T.g_u_law_cell F_u_law_cell.kp b_u_law_cell (fun σ => passAt (takes_of rfl rfl rfl rfl) σ) (pa_cons (pv 0) (pa_cons (pe_op op_mul pe_int (pv 1)) pa_nil))) pa_nil))) (pss_cons (ps_set (i := 3) sc_u_law_value.nd rfl (Or.inl rfl) (pe_ix (cr_ixL rfl) (pe_lst (pa_cons pe_str (pa_cons pe_str (pa_cons pe_str (pa_cons pe_str (pa_cons pe_str (pa_cons pe_str pa_nil))))))) (pe_op op_mod (pe_op op_mod (pv 2) pe_int) (pe_op op_add pe_int (pe_op op_mod (pe_op op_fdiv (pv 2) pe_int) pe_int))) (fun _ _ => rfl))) (pss_cons (ps_set (i := 4) sc_u_law_value.nd rfl (Or.inl rfl) (pe_callS G_u_law_body (hr.mono (by decide)) rfl T.g_u_law_body F_u_law_body.kp b_u_law_body (fun σ => passAt (takes_of rfl rfl rfl rfl) σ) (pa_cons (pe_ix (cr_ixL rfl) (pe_lst (pa_cons pe_str (pa_cons pe_str (pa_cons pe_str (pa_cons pe_str pa_nil))))) (pe_op op_mod (pe_op op_fdiv (pv 2) pe_int) pe_int) (fun _ _ => rfl)) (pa_cons (pe_callB call_abs (by rfl) T.n_abs (by decide +kernel) (pa_cons (pe_callS G_u_law_cell (hr.mono (by decide)) rfl T.g_u_law_cell F_u_law_cell.kp b_u_law_cell (fun σ => passAt (takes_of rfl rfl rfl rfl) σ) (pa_cons (pv 0) (pa_cons (pe_op op_add (pe_op op_mul pe_int (pv 1)) pe_int) pa_nil))) pa_nil)) pa_nil)))) (pss_cons (ps_if (pt_cmpR op_gt (pe_op op_mod (pe_op op_fdiv (pv 2) pe_int) pe_int) pe_int (nomark _)) (pss_one (ps_set (i := 4) sc_u_law_value.nd rfl (Or.inl rfl) (pe_callS G_u_law_body (hr.mono (by decide)) rfl T.g_u_law_body F_u_law_body.kp b_u_law_body (fun σ => passAt (takes_of rfl rfl rfl rfl) σ) (pa_cons (pv 3) (pa_cons (pe_callB call_abs (by rfl) T.n_abs (by decide +kernel) (pa_cons (pe_callS G_u_law_cell (hr.mono (by decide)) rfl T.g_u_law_cell F_u_law_cell.kp b_u_law_cell (fun σ => passAt (takes_of rfl rfl rfl rfl) σ) (pa_cons (pv 0) (pa_cons (pe_op op_add (pe_op op_mul pe_int (pv 1)) pe_int) pa_nil))) pa_nil)) pa_nil))))) pss_nil) (pss_cons (ps_set (i := 5) sc_u_law_value.nd rfl (Or.inl rfl) (pe_lst (pa_cons (pv 3) (pa_cons (pe_callS G_u_law_text (hr.mono (by decide)) rfl T.g_u_law_text F_u_law_text.kp b_u_law_text (fun σ => passAt (takes_of rfl rfl rfl rfl) σ) (pa_cons (pe_callB call_abs (by rfl) T.n_abs (by decide +kernel) (pa_cons (pe_callS G_u_law_cell (hr.mono (by decide)) rfl T.g_u_law_cell F_u_law_cell.kp b_u_law_cell (fun σ => passAt (takes_of rfl rfl rfl rfl) σ) (pa_cons (pv 0) (pa_cons (pe_op op_add (pe_op op_mul pe_int (pv 1)) pe_int) pa_nil))) pa_nil)) pa_nil)) (pa_cons (pv 4) (pa_cons (pe_callS G_u_law_data (hr.mono (by decide)) rfl T.g_u_law_data F_u_law_data.kp b_u_law_data (fun σ => passAt (takes_of rfl rfl rfl rfl) σ) (pa_cons (pe_callB call_abs (by rfl) T.n_abs (by decide +kernel) (pa_cons (pe_callS G_u_law_cell (hr.mono (by decide)) rfl T.g_u_law_cell F_u_law_cell.kp b_u_law_cell (fun σ => passAt (takes_of rfl rfl rfl rfl) σ) (pa_cons (pv 0) (pa_cons (pe_op op_add (pe_op op_mul pe_int (pv 1)) pe_int) pa_nil))) pa_nil)) (pa_cons pe_int pa_nil))) pa_nil)))))) (pss_cons (ps_set (i := 6) sc_u_law_value.nd rfl (Or.inl rfl) (pe_op op_mod (pe_op op_fdiv (pv 2) pe_int) pe_int)) (pss_cons (ps_if (pt_cmpR op_eq (pv 6) pe_int (nomark _)) (pss_one (ps_asg (pe_callS G_u_law_other (hr.mono (by decide)) rfl T.g_u_law_other F_u_law_other.kp b_u_law_other (fun σ => passAt (takes_of rfl rfl rfl rfl) σ) (pa_cons (pe_op op_fdiv (pv 2) pe_int) pa_nil)) (pg_sub (pv 5) (pe_op op_mod (pe_op op_fdiv (pv 2) pe_int) pe_int) set_list))) pss_nil) (pss_cons (ps_if (pt_cmpR op_eq (pv 6) pe_int (nomark _)) (pss_one (ps_set (i := 5) sc_u_law_value.nd rfl (Or.inl rfl) (pe_slice (cr_slL rfl) (pv 5) po_none (po_some pe_int)))) pss_nil) (pss_cons (ps_if (pt_cmpR op_eq (pv 6) pe_int (nomark _)) (pss_one (ps_set (i := 5) sc_u_law_value.nd rfl (Or.inl rfl) (pe_op op_cat (pv 5) (pe_lst (pa_cons (pe_tup pa_nil) pa_nil))))) pss_nil) (pss_cons (ps_if (pt_cmpR op_eq (pv 6) pe_int (nomark _)) (pss_one (ps_ret (pv 5))) pss_nil) (pss_cons (ps_if (pt_cmpR op_eq (pv 6) pe_int (nomark _)) (pss_one (ps_asg (pe_op op_catT (pe_ix (cr_ixL rfl) (pv 5) pe_int (fun _ _ => rfl)) (pe_tup (pa_cons pe_int pa_nil))) (pg_sub (pv 5) pe_int set_list))) pss_nil) (pss_one (ps_ret (pe_callTy call_tuple_of (by rfl) T.n_tuple (by decide +kernel) (pa_cons (pv 5) pa_nil))))))))))))))), ?_⟩
  rintro ⟨script_, k_, ⟨⟩⟩ F0 H0 Q KP L
  show Blk K F0 H0 KP _ [iM script_, iM k_, none, none, none, none, none] (m_u_law_value script_ k_)
  unfold m_u_law_value
  have hs_ := ((ev_cb cx_abs (fun _ _ h => nomatch h) (ea_cons (ev_call (f := (fun (p : (Ro Int) × Int × Unit) => m_u_law_cell p.1 p.2.1)) (ea_cons (ev_var (i := 0) (x := script_) rfl) (ea_cons (ev_opI (C := CMul) (g := fun i j => i * j) (fun x y h _ => by cases h; exact .inl (by decide)) (ev_int (i := 4)) (ev_var (i := 1) (x := k_) rfl)) ea_nil))) ea_nil)) : EvX K (W0 E) [iM script_, iM k_, none, none, none, none, none] _ _)
  refine blk_seq (blk_set (i := 2) L trivial (by exact hs_) fun cell_ => ?_)
  show Blk _ _ _ _ _ [iM script_, iM k_, iM cell_, none, none, none, none] _
  try refine Blk.nx ?_
  have hs_ := ((ev_op opx_ixL (fun x y => idx_mild x y) (ev_ofN (en_lst (f := (fun y => ([y.1, y.2.1, y.2.2.1, y.2.2.2.1, y.2.2.2.2.1, y.2.2.2.2.2.1] : List Str))) (ea_cons (ev_str (x := "state")) (ea_cons (ev_str (x := "admit")) (ea_cons (ev_str (x := "replace")) (ea_cons (ev_str (x := "withdraw")) (ea_cons (ev_str (x := "State")) (ea_cons (ev_str (x := "admits")) ea_nil)))))) (fun _ => rfl) (fun _ => by show 6 ≤ 100000; decide))) (ev_op (opx_I (C := (fun _ j => 0 < j)) (g := fun i j => i % j)) mild_need (ev_opI (C := (fun _ j => 0 < j)) (g := fun i j => i % j) (fun x y _ h => by cases h; (show (0 : Int) < _; decide)) (ev_var (i := 2) (x := cell_) rfl) (ev_int (i := 6))) (ev_op (opx_I0 (g := fun i j => i + j)) mild_ok (ev_int (i := 4)) (ev_opI (C := (fun _ j => 0 < j)) (g := fun i j => i % j) (fun x y _ h => by cases h; (show (0 : Int) < _; decide)) (ev_opI (C := CDiv) (g := fun i j => i / j) (fun x y _ h => by cases h; exact ⟨by decide, by decide⟩) (ev_var (i := 2) (x := cell_) rfl) (ev_int (i := 6))) (ev_int (i := 3)))))) : EvX K (W0 E) [iM script_, iM k_, iM cell_, none, none, none, none] _ _)
  refine blk_seq (blk_set (i := 3) L trivial (by exact hs_) fun kind_ => ?_)
  show Blk _ _ _ _ _ [iM script_, iM k_, iM cell_, iM kind_, none, none, none] _
  try refine Blk.nx ?_
  have hs_ := ((ev_call (f := (fun (p : Str × Int × Unit) => m_u_law_body p.1 p.2.1)) (ea_cons (ev_op opx_ixL (fun x y => idx_mild x y) (ev_ofN (en_lst (f := (fun y => ([y.1, y.2.1, y.2.2.1, y.2.2.2.1] : List Str))) (ea_cons (ev_str (x := "state")) (ea_cons (ev_str (x := "admit")) (ea_cons (ev_str (x := "replace")) (ea_cons (ev_str (x := "withdraw")) ea_nil)))) (fun _ => rfl) (fun _ => by show 4 ≤ 100000; decide))) (ev_opI (C := (fun _ j => 0 < j)) (g := fun i j => i % j) (fun x y _ h => by cases h; (show (0 : Int) < _; decide)) (ev_opI (C := CDiv) (g := fun i j => i / j) (fun x y _ h => by cases h; exact ⟨by decide, by decide⟩) (ev_var (i := 2) (x := cell_) rfl) (ev_int (i := 18))) (ev_int (i := 4)))) (ea_cons (ev_cb cx_abs (fun _ _ h => nomatch h) (ea_cons (ev_call (f := (fun (p : (Ro Int) × Int × Unit) => m_u_law_cell p.1 p.2.1)) (ea_cons (ev_var (i := 0) (x := script_) rfl) (ea_cons (ev_op (opx_I0 (g := fun i j => i + j)) mild_ok (ev_opI (C := CMul) (g := fun i j => i * j) (fun x y h _ => by cases h; exact .inl (by decide)) (ev_int (i := 4)) (ev_var (i := 1) (x := k_) rfl)) (ev_int (i := 2))) ea_nil))) ea_nil)) ea_nil))) : EvX K (W0 E) [iM script_, iM k_, iM cell_, iM kind_, none, none, none] _ _)
  refine blk_seq (blk_set (i := 4) L trivial (by exact hs_) fun body_ => ?_)
  show Blk _ _ _ _ _ [iM script_, iM k_, iM cell_, iM kind_, iM body_, none, none] _
  try refine Blk.nx ?_
  have ht_ := ((et_test (ev_op (opx_B0 (g := fun i j => decide (j < i))) mild_ok (ev_opI (C := (fun _ j => 0 < j)) (g := fun i j => i % j) (fun x y _ h => by cases h; (show (0 : Int) < _; decide)) (ev_opI (C := CDiv) (g := fun i j => i / j) (fun x y _ h => by cases h; exact ⟨by decide, by decide⟩) (ev_var (i := 2) (x := cell_) rfl) (ev_int (i := 72))) (ev_int (i := 4))) (ev_int (i := 0)))) : EvT K (W0 E) [iM script_, iM k_, iM cell_, iM kind_, iM body_, none, none] _ _)
  refine blk_seq (blk_ifj (S := D) (fun body_ => [iM script_, iM k_, iM cell_, iM kind_, iM body_, none, none]) (m_u_law_value_k1 script_ k_ cell_ kind_) L trivial (by exact ht_) ?_ ?_ ?_)
  · intro body_
    show Blk _ _ _ _ _ [iM script_, iM k_, iM cell_, iM kind_, iM body_, none, none] ((m_u_law_value_k1 script_ k_ cell_ kind_) body_)
    unfold m_u_law_value_k1
    try refine Blk.nx ?_
    have hs_ := ((en_lst (f := (fun y => ([y.1, y.2.1, y.2.2.1, y.2.2.2.1] : List D))) (ea_cons (ev_as (ev_var (i := 3) (x := kind_) rfl) toD (fun _ => rfl) rfl) (ea_cons (ev_as (ev_call (f := (fun (p : Int × Unit) => m_u_law_text p.1)) (ea_cons (ev_cb cx_abs (fun _ _ h => nomatch h) (ea_cons (ev_call (f := (fun (p : (Ro Int) × Int × Unit) => m_u_law_cell p.1 p.2.1)) (ea_cons (ev_var (i := 0) (x := script_) rfl) (ea_cons (ev_op (opx_I0 (g := fun i j => i + j)) mild_ok (ev_opI (C := CMul) (g := fun i j => i * j) (fun x y h _ => by cases h; exact .inl (by decide)) (ev_int (i := 4)) (ev_var (i := 1) (x := k_) rfl)) (ev_int (i := 1))) ea_nil))) ea_nil)) ea_nil)) toD (fun _ => rfl) rfl) (ea_cons (ev_var (i := 4) (x := body_) rfl) (ea_cons (ev_call (f := (fun (p : Int × Int × Unit) => m_u_law_data p.1 p.2.1)) (ea_cons (ev_cb cx_abs (fun _ _ h => nomatch h) (ea_cons (ev_call (f := (fun (p : (Ro Int) × Int × Unit) => m_u_law_cell p.1 p.2.1)) (ea_cons (ev_var (i := 0) (x := script_) rfl) (ea_cons (ev_op (opx_I0 (g := fun i j => i + j)) mild_ok (ev_opI (C := CMul) (g := fun i j => i * j) (fun x y h _ => by cases h; exact .inl (by decide)) (ev_int (i := 4)) (ev_var (i := 1) (x := k_) rfl)) (ev_int (i := 3))) ea_nil))) ea_nil)) (ea_cons (ev_int (i := 256)) ea_nil))) ea_nil)))) (fun _ => rfl) (fun _ => by show 4 ≤ 100000; decide)) : EvN K (W0 E) [iM script_, iM k_, iM cell_, iM kind_, iM body_, none, none] _ _)
    refine blk_seq (blk_own (i := 5) L trivial (by exact hs_) fun value_ => ?_)
    show Blk _ _ _ _ _ [iM script_, iM k_, iM cell_, iM kind_, iM body_, oW value_, none] _
    try refine Blk.nx ?_
    have hs_ := ((ev_opI (C := (fun _ j => 0 < j)) (g := fun i j => i % j) (fun x y _ h => by cases h; (show (0 : Int) < _; decide)) (ev_opI (C := CDiv) (g := fun i j => i / j) (fun x y _ h => by cases h; exact ⟨by decide, by decide⟩) (ev_var (i := 2) (x := cell_) rfl) (ev_int (i := 288))) (ev_int (i := 12))) : EvX K (W0 E) [iM script_, iM k_, iM cell_, iM kind_, iM body_, oW value_, none] _ _)
    refine blk_seq (blk_set (i := 6) L trivial (by exact hs_) fun how_ => ?_)
    show Blk _ _ _ _ _ [iM script_, iM k_, iM cell_, iM kind_, iM body_, oW value_, iM how_] _
    try refine Blk.nx ?_
    have ht_ := ((et_test (ev_op opx_eqI mild_ok (ev_var (i := 6) (x := how_) rfl) (ev_int (i := 1)))) : EvT K (W0 E) [iM script_, iM k_, iM cell_, iM kind_, iM body_, oW value_, iM how_] _ _)
    refine blk_seq (blk_ifj (S := (List D)) (fun value_ => [iM script_, iM k_, iM cell_, iM kind_, iM body_, oW value_, iM how_]) (m_u_law_value_k2 how_) L trivial (by exact ht_) ?_ ?_ ?_)
    · intro value_
      show Blk _ _ _ _ _ [iM script_, iM k_, iM cell_, iM kind_, iM body_, oW value_, iM how_] ((m_u_law_value_k2 how_) value_)
      unfold m_u_law_value_k2
      try refine Blk.nx ?_
      have ht_ := ((et_test (ev_op opx_eqI mild_ok (ev_var (i := 6) (x := how_) rfl) (ev_int (i := 2)))) : EvT K (W0 E) [iM script_, iM k_, iM cell_, iM kind_, iM body_, oW value_, iM how_] _ _)
      refine blk_seq (blk_ifj (S := (List D)) (fun value_ => [iM script_, iM k_, iM cell_, iM kind_, iM body_, oW value_, iM how_]) (m_u_law_value_k3 how_) L trivial (by exact ht_) ?_ ?_ ?_)
      · intro value_
        show Blk _ _ _ _ _ [iM script_, iM k_, iM cell_, iM kind_, iM body_, oW value_, iM how_] ((m_u_law_value_k3 how_) value_)
        unfold m_u_law_value_k3
        try refine Blk.nx ?_
        have ht_ := ((et_test (ev_op opx_eqI mild_ok (ev_var (i := 6) (x := how_) rfl) (ev_int (i := 3)))) : EvT K (W0 E) [iM script_, iM k_, iM cell_, iM kind_, iM body_, oW value_, iM how_] _ _)
        refine blk_seq (blk_ifj (S := (List D)) (fun value_ => [iM script_, iM k_, iM cell_, iM kind_, iM body_, oW value_, iM how_]) (m_u_law_value_k4 how_) L trivial (by exact ht_) ?_ ?_ ?_)
        · intro value_
          show Blk _ _ _ _ _ [iM script_, iM k_, iM cell_, iM kind_, iM body_, oW value_, iM how_] ((m_u_law_value_k4 how_) value_)
          unfold m_u_law_value_k4
          try refine Blk.nx ?_
          have ht_ := ((et_test (ev_op opx_eqI mild_ok (ev_var (i := 6) (x := how_) rfl) (ev_int (i := 4)))) : EvT K (W0 E) [iM script_, iM k_, iM cell_, iM kind_, iM body_, oW value_, iM how_] _ _)
          refine blk_seq (blk_if2 L trivial (by exact ht_) ?_ ?_)
          · refine blk_freeze 5 rfl ?_
            show Blk _ _ _ _ _ [iM script_, iM k_, iM cell_, iM kind_, iM body_, iM value_, iM how_] _
            have hr_ := ((ev_as (ev_var (i := 5) (x := value_) rfl) toD (fun _ => rfl) rfl) : EvX K (W0 E) [iM script_, iM k_, iM cell_, iM kind_, iM body_, iM value_, iM how_] _ _)
            exact blk_ret L trivial (by exact hr_)
          · refine blk_nil ?_
            try refine Blk.nx ?_
            have ht_ := ((et_test (ev_op opx_eqI mild_ok (ev_var (i := 6) (x := how_) rfl) (ev_int (i := 5)))) : EvT K (W0 E) [iM script_, iM k_, iM cell_, iM kind_, iM body_, oW value_, iM how_] _ _)
            refine blk_seq (blk_ifj (S := (List D)) (fun value_ => [iM script_, iM k_, iM cell_, iM kind_, iM body_, iM value_, iM how_]) m_u_law_value_k6 L trivial (by exact ht_) ?_ ?_ ?_)
            · intro value_
              show Blk _ _ _ _ _ [iM script_, iM k_, iM cell_, iM kind_, iM body_, iM value_, iM how_] (m_u_law_value_k6 value_)
              unfold m_u_law_value_k6
              try refine Blk.nx ?_
              have hr_ := ((ev_as (ev_tupleL (ev_var (i := 5) (x := value_) rfl)) toD (fun _ => rfl) rfl) : EvX K (W0 E) [iM script_, iM k_, iM cell_, iM kind_, iM body_, iM value_, iM how_] _ _)
              exact blk_ret L trivial (by exact hr_)
            · intro hk6
              have he_ := ((ev_as (ev_op opx_catU mild_need (ev_cast (f := D.asTu) asTu_ok asTu_x (ev_ixO (j := 5) (xs := value_) rfl (ev_int (i := 2)))) (ev_as (ev_tup (f := (fun (y : Int × Unit) => T1.mk y.1)) (ea_cons (ev_int (i := 1)) ea_nil) (fun _ => rfl) (fun _ => by show 1 ≤ 100000; decide)) (fun (x : (T1 Int)) => Tu.mk [toD x.a]) (fun _ => rfl) rfl)) toD (fun _ => rfl) rfl) : EvX K (W0 E) [iM script_, iM k_, iM cell_, iM kind_, iM body_, oW value_, iM how_] _ _)
              have hi_ := ((ev_int (i := 2)) : EvX K (W0 E) [iM script_, iM k_, iM cell_, iM kind_, iM body_, oW value_, iM how_] _ _)
              refine blk_setI (i := 5) (xs := value_) (f := m_u_law_value_k7) L trivial rfl (by exact he_) (by exact hi_) fun value_ => ?_
              show Blk _ _ _ _ _ [iM script_, iM k_, iM cell_, iM kind_, iM body_, oW value_, iM how_] (m_u_law_value_k7 value_)
              unfold m_u_law_value_k7
              show Blk _ _ _ _ _ [iM script_, iM k_, iM cell_, iM kind_, iM body_, oW value_, iM how_] _
              try refine Blk.nx ?_
              refine blk_freeze 5 rfl ?_
              show Blk _ _ _ _ _ [iM script_, iM k_, iM cell_, iM kind_, iM body_, iM value_, iM how_] _
              exact (hk6 value_).weak (.same (.same (.same (.same (.same (.same (.same .nil)))))))
            · intro hk6
              refine blk_nil ?_
              try refine Blk.nx ?_
              refine blk_freeze 5 rfl ?_
              show Blk _ _ _ _ _ [iM script_, iM k_, iM cell_, iM kind_, iM body_, iM value_, iM how_] _
              exact (hk6 value_).weak (.same (.same (.same (.same (.same (.same (.same .nil)))))))
        · intro hk4
          have hs_ := ((en_catO (j := 5) (xs := value_) rfl (ev_ofN (en_lst (f := (fun y => ([y.1] : List D))) (ea_cons (ev_as (ev_tup (f := (fun (y : Unit) => T0.mk )) ea_nil (fun _ => rfl) (fun _ => by show 0 ≤ 100000; decide)) toD (fun _ => rfl) rfl) ea_nil) (fun _ => rfl) (fun _ => by show 1 ≤ 100000; decide)))) : EvN K (W0 E) [iM script_, iM k_, iM cell_, iM kind_, iM body_, oW value_, iM how_] _ _)
          refine blk_own (i := 5) L trivial (by exact hs_) fun value_ => ?_
          show Blk _ _ _ _ _ [iM script_, iM k_, iM cell_, iM kind_, iM body_, oW value_, iM how_] _
          try refine Blk.nx ?_
          exact (hk4 value_).weak (.same (.same (.same (.same (.same (.same (.same .nil)))))))
        · intro hk4
          refine blk_nil ?_
          try refine Blk.nx ?_
          exact (hk4 value_).weak (.same (.same (.same (.same (.same (.same (.same .nil)))))))
      · intro hk3
        have hs_ := ((en_sliceO (j := 5) (xs := value_) (lo := none) (hi := (some (3 : Int))) rfl to_none to_int) : EvN K (W0 E) [iM script_, iM k_, iM cell_, iM kind_, iM body_, oW value_, iM how_] _ _)
        refine blk_own (i := 5) L trivial (by exact hs_) fun value_ => ?_
        show Blk _ _ _ _ _ [iM script_, iM k_, iM cell_, iM kind_, iM body_, oW value_, iM how_] _
        try refine Blk.nx ?_
        exact (hk3 value_).weak (.same (.same (.same (.same (.same (.same (.same .nil)))))))
      · intro hk3
        refine blk_nil ?_
        try refine Blk.nx ?_
        exact (hk3 value_).weak (.same (.same (.same (.same (.same (.same (.same .nil)))))))
    · intro hk2
      have he_ := ((ev_call (f := (fun (p : Int × Unit) => m_u_law_other p.1)) (ea_cons (ev_opI (C := CDiv) (g := fun i j => i / j) (fun x y _ h => by cases h; exact ⟨by decide, by decide⟩) (ev_var (i := 2) (x := cell_) rfl) (ev_int (i := 13824))) ea_nil)) : EvX K (W0 E) [iM script_, iM k_, iM cell_, iM kind_, iM body_, oW value_, iM how_] _ _)
      have hi_ := ((ev_opI (C := (fun _ j => 0 < j)) (g := fun i j => i % j) (fun x y _ h => by cases h; (show (0 : Int) < _; decide)) (ev_opI (C := CDiv) (g := fun i j => i / j) (fun x y _ h => by cases h; exact ⟨by decide, by decide⟩) (ev_var (i := 2) (x := cell_) rfl) (ev_int (i := 3456))) (ev_int (i := 4))) : EvX K (W0 E) [iM script_, iM k_, iM cell_, iM kind_, iM body_, oW value_, iM how_] _ _)
      refine blk_setI (i := 5) (xs := value_) (f := (m_u_law_value_k8 how_)) L trivial rfl (by exact he_) (by exact hi_) fun value_ => ?_
      show Blk _ _ _ _ _ [iM script_, iM k_, iM cell_, iM kind_, iM body_, oW value_, iM how_] ((m_u_law_value_k8 how_) value_)
      unfold m_u_law_value_k8
      show Blk _ _ _ _ _ [iM script_, iM k_, iM cell_, iM kind_, iM body_, oW value_, iM how_] _
      try refine Blk.nx ?_
      exact (hk2 value_).weak (.same (.same (.same (.same (.same (.same (.same .nil)))))))
    · intro hk2
      refine blk_nil ?_
      try refine Blk.nx ?_
      exact (hk2 value_).weak (.same (.same (.same (.same (.same (.same (.same .nil)))))))
  · intro hk1
    have hs_ := ((ev_call (f := (fun (p : Str × Int × Unit) => m_u_law_body p.1 p.2.1)) (ea_cons (ev_var (i := 3) (x := kind_) rfl) (ea_cons (ev_cb cx_abs (fun _ _ h => nomatch h) (ea_cons (ev_call (f := (fun (p : (Ro Int) × Int × Unit) => m_u_law_cell p.1 p.2.1)) (ea_cons (ev_var (i := 0) (x := script_) rfl) (ea_cons (ev_op (opx_I0 (g := fun i j => i + j)) mild_ok (ev_opI (C := CMul) (g := fun i j => i * j) (fun x y h _ => by cases h; exact .inl (by decide)) (ev_int (i := 4)) (ev_var (i := 1) (x := k_) rfl)) (ev_int (i := 2))) ea_nil))) ea_nil)) ea_nil))) : EvX K (W0 E) [iM script_, iM k_, iM cell_, iM kind_, iM body_, none, none] _ _)
    refine blk_set (i := 4) L trivial (by exact hs_) fun body_ => ?_
    show Blk _ _ _ _ _ [iM script_, iM k_, iM cell_, iM kind_, iM body_, none, none] _
    try refine Blk.nx ?_
    exact (hk1 body_).weak (.same (.same (.same (.same (.same (.same (.same .nil)))))))
  · intro hk1
    refine blk_nil ?_
    try refine Blk.nx ?_
    exact (hk1 body_).weak (.same (.same (.same (.same (.same (.same (.same .nil)))))))
noncomputable def m_u_law_is_text_l2 (k2 : Unit → Res Bool) : List Str → Unit → Res Bool
  | [], s => k2 s
  | x218 :: r2, _ =>   (fun (sign_ : Str) => (((cond (!decide ((Str.cps sign_).toList < (Str.cps (" " : Str)).toList)) (Res.ok (!decide ((Str.cps ("~" : Str)).toList < (Str.cps sign_).toList))) (Res.ok false)).bind fun (t219 : Bool) => Res.ok (!t219)).bind fun b221 => cond b221 (Res.ok true) ((Res.need ((sign_).length = 1) (Res.ok (((sign_).cps.getD 0 0 : Nat) : Int))).bind fun (t220 : Int) => Res.ok (decide (t220 = (37 : Int))))).bind fun b => cond b   ((Res.ok false))   (m_u_law_is_text_l2 k2 r2 ())) x218
noncomputable def m_u_law_is_text_k3 : Unit → Res Bool := fun _ =>   (Res.ok true)
noncomputable def m_u_law_is_text (value_ : D) : Res Bool :=
  (((Res.need ((toD value_).plain = true) (Res.ok (isI "str" (toD value_)))).bind fun (t211 : Bool) => Res.ok (!t211)).bind fun b216 => cond b216 (Res.ok true) ((((((Res.ok value_)).bind D.asStr).bind fun a212 => Res.ok (a212, ())).bind fun p214 => Res.need ((p214.1).length ≤ 16777216) (Res.ok ((p214.1).length : Int))).bind fun (t215 : Int) => Res.ok (decide ((600 : Int) < t215)))).bind fun b => cond b   ((Res.ok false))   (((((Res.ok value_)).bind D.asStr).bind fun (t217 : Str) => Res.ok (chars t217)).bind fun (xs222 : List Str) => m_u_law_is_text_l2 (m_u_law_is_text_k3) xs222 ())
theorem ok_u_law_is_text {P : Program} {w : World} {K : PySem.W.Frag} {mg : Str → Option Value} {base : Heap} (T : Facts P w K mg) {fd : FuncData} (F : FnP K "_law_is_text" "_law_is_text" s_u_law_is_text (He.ga K "_law_is_text") fd) :
    FnOk P w K mg base (L2.CX P w) 1 (He.ga K "_law_is_text") fd ["value"] (spM K (fun (p : D × Unit) => m_u_law_is_text p.1)) := by
  refine fn_ok F sc_u_law_is_text (fun y => rfl) (fun cdv A outer s H E hr => ?_)
  refine ⟨_, (pss_cons (ps_if (PW.pt (pw_or (pt_not (pt_val (pe_callB call_isi (by rfl) T.n_isinstance (by decide +kernel) (pa_cons (pv 0) (pa_cons (pe_bltn (v := .ty "str") (by rfl) T.n_str (by decide +kernel) rfl) pa_nil))))) (pw_or1 (pt_cmpR op_gt (pe_callB cr_lenT (by rfl) T.n_len (by decide +kernel) (pa_cons (pv 0) pa_nil)) pe_int (nomark _))))) (pss_one (ps_ret pe_bl)) pss_nil) (pss_cons (ps_for (passes_of rfl) rfl (pi_str (pv 0)) (pg_name (i := 1) sc_u_law_is_text.nd rfl (Or.inl rfl)) (pss_one (ps_if (PW.pt (pw_or (pt_not (pt_chain op_le_str op_le_str pe_str (pv 1) pe_str)) (pw_or1 (pt_cmpR op_eq (pe_callB call_ord (by rfl) T.n_ord (by decide +kernel) (pa_cons (pv 1) pa_nil)) pe_int (nomark _))))) (pss_one (ps_ret pe_bl)) pss_nil))) (pss_one (ps_ret pe_bl)))), ?_⟩
  rintro ⟨value_, ⟨⟩⟩ F0 H0 Q KP L
  show Blk K F0 H0 KP _ [iM value_, none] (m_u_law_is_text value_)
  unfold m_u_law_is_text
  have ht_ := ((et_or (et_not (et_B (ev_isi isi_str (ev_var (i := 0) (x := value_) rfl)))) (et_test (ev_op (opx_B0 (g := fun i j => decide (j < i))) mild_ok (ev_cb cx_lenS (fun _ _ h => need_mild h) (ea_cons (ev_cast (f := D.asStr) asStr_ok asStr_x (ev_var (i := 0) (x := value_) rfl)) ea_nil)) (ev_int (i := 600))))) : EvT K (W0 E) [iM value_, none] _ _)
  refine blk_seq (blk_if2 L trivial (by exact ht_) ?_ ?_)
  · have hr_ := ((ev_bl (b := false)) : EvX K (W0 E) [iM value_, none] _ _)
    exact blk_ret L trivial (by exact hr_)
  · refine blk_nil ?_
    try refine Blk.nx ?_
    have hi_ := ((ei_str (ev_cast (f := D.asStr) asStr_ok asStr_x (ev_var (i := 0) (x := value_) rfl))) : EvI K (W0 E) [iM value_, none] _ _)
    refine blk_seq (blk_for (S := Unit) (m_u_law_is_text_l2 (m_u_law_is_text_k3)) (m_u_law_is_text_k3) (fun _ => [iM value_, none]) () L trivial (by exact hi_) (fun _ => gx_name) (.same (.same .nil)) (fun _ => rfl) ?_ ?_)
    · intro F2 L2 hB2 x218 r2 s_ N_ hN2
      obtain ⟨⟩ := s_
      show Blk _ _ _ _ _ [iM value_, iM x218] (m_u_law_is_text_l2 (m_u_law_is_text_k3) (x218 :: r2) ())
      rw [m_u_law_is_text_l2]
      show Blk _ _ _ _ _ _ ((fun (sign_ : Str) => _) x218)
      generalize x218 = sign_
      show Blk _ _ _ _ _ [iM value_, iM sign_] _
      have ht_ := ((et_or (et_not (et_test (ev_chain opx_leS mild_ok opx_leS mild_ok (ev_str (x := " ")) (ev_var (i := 1) (x := sign_) rfl) (ev_str (x := "~"))))) (et_test (ev_op opx_eqI mild_ok (ev_cb cx_ord (fun _ _ h => need_mild h) (ea_cons (ev_var (i := 1) (x := sign_) rfl) ea_nil)) (ev_int (i := 37))))) : EvT K (W0 E) [iM value_, iM sign_] _ _)
      refine blk_if2 L2 trivial (by exact ht_) ?_ ?_
      · have hr_ := ((ev_bl (b := false)) : EvX K (W0 E) [iM value_, iM sign_] _ _)
        exact blk_ret L2 trivial (by exact hr_)
      · refine blk_nil ?_
        try refine Blk.nx ?_
        exact (hN2 ()).weak (.same (.drop .nil))
    · intro _
      show Blk _ _ _ _ _ [iM value_, none] ((m_u_law_is_text_k3) ())
      unfold m_u_law_is_text_k3
      try refine Blk.nx ?_
      have hr_ := ((ev_bl (b := true)) : EvX K (W0 E) [iM value_, none] _ _)
      exact blk_ret L trivial (by exact hr_)
noncomputable def m_u_law_is_data_l2 (k2 : Unit → Res Bool) : List D → Unit → Res Bool
  | [], s => k2 s
  | x228 :: r2, _ =>   (fun (byte_ : D) => (((m_u_law_integer byte_).bind fun (t229 : Bool) => Res.ok (!t229)).bind fun b233 => cond b233 (Res.ok true) (((((Res.ok byte_)).bind D.asInt).bind fun (t230 : Int) => Res.ok (decide (t230 < (0 : Int)))).bind fun b232 => cond b232 (Res.ok true) ((((Res.ok byte_)).bind D.asInt).bind fun (t231 : Int) => Res.ok (decide ((255 : Int) < t231))))).bind fun b => cond b   ((Res.ok false))   (m_u_law_is_data_l2 k2 r2 ())) x228
noncomputable def m_u_law_is_data_k3 : Unit → Res Bool := fun _ =>   (Res.ok true)
noncomputable def m_u_law_is_data (value_ : D) (most_ : Int) : Res Bool :=
  (((Res.need ((toD value_).plain = true) (Res.ok (isI "tuple" (toD value_)))).bind fun (t223 : Bool) => Res.ok (!t223)).bind fun b226 => cond b226 (Res.ok true) ((((Res.ok value_)).bind fun (t224 : D) => D.lenR t224).bind fun (t225 : Int) => Res.ok (decide (most_ < t225)))).bind fun b => cond b   ((Res.ok false))   (((((Res.ok value_)).bind D.asTu).bind fun (t227 : (Tu D)) => Res.ok (t227).xs).bind fun (xs234 : List D) => m_u_law_is_data_l2 (m_u_law_is_data_k3) xs234 ())
theorem ok_u_law_is_data {P : Program} {w : World} {K : PySem.W.Frag} {mg : Str → Option Value} {base : Heap} (T : Facts P w K mg) {fd : FuncData} (F : FnP K "_law_is_data" "_law_is_data" s_u_law_is_data (He.ga K "_law_is_data") fd) :
    FnOk P w K mg base (L2.CX P w) 2 (He.ga K "_law_is_data") fd ["value", "most"] (spM K (fun (p : D × Int × Unit) => m_u_law_is_data p.1 p.2.1)) := by
  obtain ⟨fd_u_law_integer, F_u_law_integer⟩ := T.d_u_law_integer
  have G_u_law_integer := ok_u_law_integer (P := P) (w := w) (base := base) T F_u_law_integer
  have b_u_law_integer : Binds K fd_u_law_integer ["x"] [] := F_u_law_integer.bindsN fun _ _ _ _ _ _ us hl => match us, hl with | [_], _ => rfl
  refine fn_ok F sc_u_law_is_data (fun y => rfl) (fun cdv A outer s H E hr => ?_)
  refine ⟨_, (pss_cons (ps_if (PW.pt (pw_or (pt_not (pt_val (pe_callB call_isi (by rfl) T.n_isinstance (by decide +kernel) (pa_cons (pv 0) (pa_cons (pe_bltn (v := .ty "tuple") (by rfl) T.n_tuple (by decide +kernel) rfl) pa_nil))))) (pw_or1 (pt_cmpR op_gt (pe_callB (cr_len rfl) (by rfl) T.n_len (by decide +kernel) (pa_cons (pv 0) pa_nil)) (pv 1) (nomark _))))) (pss_one (ps_ret pe_bl)) pss_nil) (pss_cons (ps_for (passes_of rfl) rfl (pi_tup (pv 0)) (pg_name (i := 2) sc_u_law_is_data.nd rfl (Or.inl rfl)) (pss_one (ps_if (PW.pt (pw_or (pt_not (pt_val (pe_callS G_u_law_integer (hr.mono (by decide)) rfl T.g_u_law_integer F_u_law_integer.kp b_u_law_integer (fun σ => passAt (takes_of rfl rfl rfl rfl) σ) (pa_cons (pv 2) pa_nil)))) (pw_or (pt_cmpR op_lt (pv 2) pe_int (nomark _)) (pw_or1 (pt_cmpR op_gt (pv 2) pe_int (nomark _)))))) (pss_one (ps_ret pe_bl)) pss_nil))) (pss_one (ps_ret pe_bl)))), ?_⟩
  rintro ⟨value_, most_, ⟨⟩⟩ F0 H0 Q KP L
  show Blk K F0 H0 KP _ [iM value_, iM most_, none] (m_u_law_is_data value_ most_)
  unfold m_u_law_is_data
  have ht_ := ((et_or (et_not (et_B (ev_isi isi_tuple (ev_var (i := 0) (x := value_) rfl)))) (et_test (ev_op (opx_B0 (g := fun i j => decide (j < i))) mild_ok (ev_lenD (ev_var (i := 0) (x := value_) rfl)) (ev_var (i := 1) (x := most_) rfl)))) : EvT K (W0 E) [iM value_, iM most_, none] _ _)
  refine blk_seq (blk_if2 L trivial (by exact ht_) ?_ ?_)
  · have hr_ := ((ev_bl (b := false)) : EvX K (W0 E) [iM value_, iM most_, none] _ _)
    exact blk_ret L trivial (by exact hr_)
  · refine blk_nil ?_
    try refine Blk.nx ?_
    have hi_ := ((ei_tup (ev_cast (f := D.asTu) asTu_ok asTu_x (ev_var (i := 0) (x := value_) rfl))) : EvI K (W0 E) [iM value_, iM most_, none] _ _)
    refine blk_seq (blk_for (S := Unit) (m_u_law_is_data_l2 (m_u_law_is_data_k3)) (m_u_law_is_data_k3) (fun _ => [iM value_, iM most_, none]) () L trivial (by exact hi_) (fun _ => gx_name) (.same (.same (.same .nil))) (fun _ => rfl) ?_ ?_)
    · intro F2 L2 hB2 x228 r2 s_ N_ hN2
      obtain ⟨⟩ := s_
      show Blk _ _ _ _ _ [iM value_, iM most_, iM x228] (m_u_law_is_data_l2 (m_u_law_is_data_k3) (x228 :: r2) ())
      rw [m_u_law_is_data_l2]
      show Blk _ _ _ _ _ _ ((fun (byte_ : D) => _) x228)
      generalize x228 = byte_
      show Blk _ _ _ _ _ [iM value_, iM most_, iM byte_] _
      have ht_ := ((et_or (et_not (et_B (ev_call (f := (fun (p : D × Unit) => m_u_law_integer p.1)) (ea_cons (ev_var (i := 2) (x := byte_) rfl) ea_nil)))) (et_or (et_test (ev_op (opx_B0 (g := fun i j => decide (i < j))) mild_ok (ev_cast (f := D.asInt) asInt_ok asInt_x (ev_var (i := 2) (x := byte_) rfl)) (ev_int (i := 0)))) (et_test (ev_op (opx_B0 (g := fun i j => decide (j < i))) mild_ok (ev_cast (f := D.asInt) asInt_ok asInt_x (ev_var (i := 2) (x := byte_) rfl)) (ev_int (i := 255)))))) : EvT K (W0 E) [iM value_, iM most_, iM byte_] _ _)
      refine blk_if2 L2 trivial (by exact ht_) ?_ ?_
      · have hr_ := ((ev_bl (b := false)) : EvX K (W0 E) [iM value_, iM most_, iM byte_] _ _)
        exact blk_ret L2 trivial (by exact hr_)
      · refine blk_nil ?_
        try refine Blk.nx ?_
        exact (hN2 ()).weak (.same (.same (.drop .nil)))
    · intro _
      show Blk _ _ _ _ _ [iM value_, iM most_, none] ((m_u_law_is_data_k3) ())
      unfold m_u_law_is_data_k3
      try refine Blk.nx ?_
      have hr_ := ((ev_bl (b := true)) : EvX K (W0 E) [iM value_, iM most_, none] _ _)
      exact blk_ret L trivial (by exact hr_)
noncomputable def m_u_law_is_body (kind_ : Int) (body_ : D) : Res Bool :=
  (((Res.need ((toD body_).plain = true) (Res.ok (isI "tuple" (toD body_)))).bind fun (t235 : Bool) => Res.ok (!t235)).bind fun b239 => cond b239 (Res.ok true) ((((Res.ok body_)).bind fun (t236 : D) => D.lenR t236).bind fun (t237 : Int) => (idx ([(1 : Int), (2 : Int), (2 : Int), (1 : Int)] : List Int) kind_).bind fun (t238 : Int) => Res.ok (!decide (t237 = t238)))).bind fun b => cond b   ((Res.ok false))   (((Res.ok (decide (kind_ = (0 : Int))))).bind fun b => cond b   ((((((Res.ok body_)).bind D.asTu).bind fun (t240 : (Tu D)) => idx (t240).xs (0 : Int)).bind fun a241 => Res.ok (a241, ((1024 : Int), ()))).bind fun p243 => m_u_law_is_data p243.1 p243.2.1)   ((((((((Res.ok body_)).bind D.asTu).bind fun (t244 : (Tu D)) => idx (t244).xs (0 : Int)).bind fun a245 => Res.ok (a245, ())).bind fun p247 => m_u_law_is_text p247.1).bind fun (t248 : Bool) => Res.ok (!t248)).bind fun b => cond b   ((Res.ok false))   (((Res.ok (decide (kind_ = (1 : Int))))).bind fun b => cond b   ((((((Res.ok body_)).bind D.asTu).bind fun (t249 : (Tu D)) => idx (t249).xs (1 : Int)).bind fun (t250 : D) => Res.need ((toD t250).plain = true) (Res.ok (isI "str" (toD t250)))).bind fun b254 => cond b254 ((((((Res.ok body_)).bind D.asTu).bind fun (t251 : (Tu D)) => idx (t251).xs (1 : Int)).bind D.asStr).bind fun (t253 : Str) => Res.ok (decide (t253 ∈ (((fun (x : (T8 Str Str Str Str Str Str Str Str)) => Tu.mk [x.a, x.b, x.c, x.e, x.f, x.g, x.h, x.i]) (T8.mk ("" : Str) ("a" : Str) ("s" : Str) ("w" : Str) ("as" : Str) ("aw" : Str) ("sw" : Str) ("asw" : Str)))).xs))) (Res.ok false))   (cond (decide (kind_ = (3 : Int))) (Res.ok true) ((((((Res.ok body_)).bind D.asTu).bind fun (t255 : (Tu D)) => idx (t255).xs (1 : Int)).bind fun a256 => Res.ok (a256, ((256 : Int), ()))).bind fun p258 => m_u_law_is_data p258.1 p258.2.1)))))
theorem ok_u_law_is_body {P : Program} {w : World} {K : PySem.W.Frag} {mg : Str → Option Value} {base : Heap} (T : Facts P w K mg) {fd : FuncData} (F : FnP K "_law_is_body" "_law_is_body" s_u_law_is_body (He.ga K "_law_is_body") fd) :
    FnOk P w K mg base (L2.CX P w) 3 (He.ga K "_law_is_body") fd ["kind", "body"] (spM K (fun (p : Int × D × Unit) => m_u_law_is_body p.1 p.2.1)) := by
  obtain ⟨fd_u_law_is_data, F_u_law_is_data⟩ := T.d_u_law_is_data
  have G_u_law_is_data := ok_u_law_is_data (P := P) (w := w) (base := base) T F_u_law_is_data
  have b_u_law_is_data : Binds K fd_u_law_is_data ["value", "most"] [] := F_u_law_is_data.bindsN fun _ _ _ _ _ _ us hl => match us, hl with | [_, _], _ => rfl
  obtain ⟨fd_u_law_is_text, F_u_law_is_text⟩ := T.d_u_law_is_text
  have G_u_law_is_text := ok_u_law_is_text (P := P) (w := w) (base := base) T F_u_law_is_text
  have b_u_law_is_text : Binds K fd_u_law_is_text ["value"] [] := F_u_law_is_text.bindsN fun _ _ _ _ _ _ us hl => match us, hl with | [_], _ => rfl
  refine fn_ok F sc_u_law_is_body (fun y => rfl) (fun cdv A outer s H E hr => ?_)
  refine ⟨_, (pss_cons (ps_if (PW.pt (pw_or (pt_not (pt_val (pe_callB call_isi (by rfl) T.n_isinstance (by decide +kernel) (pa_cons (pv 1) (pa_cons (pe_bltn (v := .ty "tuple") (by rfl) T.n_tuple (by decide +kernel) rfl) pa_nil))))) (pw_or1 (pt_cmpR op_ne (pe_callB (cr_len rfl) (by rfl) T.n_len (by decide +kernel) (pa_cons (pv 1) pa_nil)) (pe_ix (cr_ixL rfl) (pe_lst (pa_cons pe_int (pa_cons pe_int (pa_cons pe_int (pa_cons pe_int pa_nil))))) (pv 0) (fun _ _ => rfl)) (nomark _))))) (pss_one (ps_ret pe_bl)) pss_nil) (pss_cons (ps_if (pt_cmpR op_eq (pv 0) pe_int (nomark _)) (pss_one (ps_ret (pe_callS G_u_law_is_data (hr.mono (by decide)) rfl T.g_u_law_is_data F_u_law_is_data.kp b_u_law_is_data (fun σ => passAt (takes_of rfl rfl rfl rfl) σ) (pa_cons (pe_ix (cr_ixT rfl) (pv 1) pe_int (fun _ _ => rfl)) (pa_cons pe_int pa_nil))))) pss_nil) (pss_cons (ps_if (pt_not (pt_val (pe_callS G_u_law_is_text (hr.mono (by decide)) rfl T.g_u_law_is_text F_u_law_is_text.kp b_u_law_is_text (fun σ => passAt (takes_of rfl rfl rfl rfl) σ) (pa_cons (pe_ix (cr_ixT rfl) (pv 1) pe_int (fun _ _ => rfl)) pa_nil)))) (pss_one (ps_ret pe_bl)) pss_nil) (pss_cons (ps_if (pt_cmpR op_eq (pv 0) pe_int (nomark _)) (pss_one (ps_ret (pe_and (pe_callB call_isi (by rfl) T.n_isinstance (by decide +kernel) (pa_cons (pe_ix (cr_ixT rfl) (pv 1) pe_int (fun _ _ => rfl)) (pa_cons (pe_bltn (v := .ty "str") (by rfl) T.n_str (by decide +kernel) rfl) pa_nil))) (pe_one (pe_cmpR op_in_seq (pe_ix (cr_ixT rfl) (pv 1) pe_int (fun _ _ => rfl)) (pe_tup (pa_cons pe_str (pa_cons pe_str (pa_cons pe_str (pa_cons pe_str (pa_cons pe_str (pa_cons pe_str (pa_cons pe_str (pa_cons pe_str pa_nil))))))))) rfl))))) pss_nil) (pss_one (ps_ret (pe_or (pe_cmpR op_eq (pv 0) pe_int (nomark _)) (pe_one (pe_callS G_u_law_is_data (hr.mono (by decide)) rfl T.g_u_law_is_data F_u_law_is_data.kp b_u_law_is_data (fun σ => passAt (takes_of rfl rfl rfl rfl) σ) (pa_cons (pe_ix (cr_ixT rfl) (pv 1) pe_int (fun _ _ => rfl)) (pa_cons pe_int pa_nil))))))))))), ?_⟩
  rintro ⟨kind_, body_, ⟨⟩⟩ F0 H0 Q KP L
  show Blk K F0 H0 KP _ [iM kind_, iM body_] (m_u_law_is_body kind_ body_)
  unfold m_u_law_is_body
  have ht_ := ((et_or (et_not (et_B (ev_isi isi_tuple (ev_var (i := 1) (x := body_) rfl)))) (et_test (ev_op opx_neI mild_ok (ev_lenD (ev_var (i := 1) (x := body_) rfl)) (ev_op opx_ixL (fun x y => idx_mild x y) (ev_ofN (en_lst (f := (fun y => ([y.1, y.2.1, y.2.2.1, y.2.2.2.1] : List Int))) (ea_cons (ev_int (i := 1)) (ea_cons (ev_int (i := 2)) (ea_cons (ev_int (i := 2)) (ea_cons (ev_int (i := 1)) ea_nil)))) (fun _ => rfl) (fun _ => by show 4 ≤ 100000; decide))) (ev_var (i := 0) (x := kind_) rfl))))) : EvT K (W0 E) [iM kind_, iM body_] _ _)
  refine blk_seq (blk_if2 L trivial (by exact ht_) ?_ ?_)
  · have hr_ := ((ev_bl (b := false)) : EvX K (W0 E) [iM kind_, iM body_] _ _)
    exact blk_ret L trivial (by exact hr_)
  · refine blk_nil ?_
    try refine Blk.nx ?_
    have ht_ := ((et_test (ev_op opx_eqI mild_ok (ev_var (i := 0) (x := kind_) rfl) (ev_int (i := 0)))) : EvT K (W0 E) [iM kind_, iM body_] _ _)
    refine blk_seq (blk_if2 L trivial (by exact ht_) ?_ ?_)
    · have hr_ := ((ev_call (f := (fun (p : D × Int × Unit) => m_u_law_is_data p.1 p.2.1)) (ea_cons (ev_op opx_ixT (fun x y => idx_mild x.xs y) (ev_cast (f := D.asTu) asTu_ok asTu_x (ev_var (i := 1) (x := body_) rfl)) (ev_int (i := 0))) (ea_cons (ev_int (i := 1024)) ea_nil))) : EvX K (W0 E) [iM kind_, iM body_] _ _)
      exact blk_ret L trivial (by exact hr_)
    · refine blk_nil ?_
      try refine Blk.nx ?_
      have ht_ := ((et_not (et_B (ev_call (f := (fun (p : D × Unit) => m_u_law_is_text p.1)) (ea_cons (ev_op opx_ixT (fun x y => idx_mild x.xs y) (ev_cast (f := D.asTu) asTu_ok asTu_x (ev_var (i := 1) (x := body_) rfl)) (ev_int (i := 0))) ea_nil)))) : EvT K (W0 E) [iM kind_, iM body_] _ _)
      refine blk_seq (blk_if2 L trivial (by exact ht_) ?_ ?_)
      · have hr_ := ((ev_bl (b := false)) : EvX K (W0 E) [iM kind_, iM body_] _ _)
        exact blk_ret L trivial (by exact hr_)
      · refine blk_nil ?_
        try refine Blk.nx ?_
        have ht_ := ((et_test (ev_op opx_eqI mild_ok (ev_var (i := 0) (x := kind_) rfl) (ev_int (i := 1)))) : EvT K (W0 E) [iM kind_, iM body_] _ _)
        refine blk_seq (blk_if2 L trivial (by exact ht_) ?_ ?_)
        · have hr_ := ((ev_andV (ev_isi isi_str (ev_op opx_ixT (fun x y => idx_mild x.xs y) (ev_cast (f := D.asTu) asTu_ok asTu_x (ev_var (i := 1) (x := body_) rfl)) (ev_int (i := 1)))) (ev_op (opx_inS false) mild_ok (ev_cast (f := D.asStr) asStr_ok asStr_x (ev_op opx_ixT (fun x y => idx_mild x.xs y) (ev_cast (f := D.asTu) asTu_ok asTu_x (ev_var (i := 1) (x := body_) rfl)) (ev_int (i := 1)))) (ev_as (ev_tup (f := (fun (y : Str × Str × Str × Str × Str × Str × Str × Str × Unit) => T8.mk y.1 y.2.1 y.2.2.1 y.2.2.2.1 y.2.2.2.2.1 y.2.2.2.2.2.1 y.2.2.2.2.2.2.1 y.2.2.2.2.2.2.2.1)) (ea_cons (ev_str (x := "")) (ea_cons (ev_str (x := "a")) (ea_cons (ev_str (x := "s")) (ea_cons (ev_str (x := "w")) (ea_cons (ev_str (x := "as")) (ea_cons (ev_str (x := "aw")) (ea_cons (ev_str (x := "sw")) (ea_cons (ev_str (x := "asw")) ea_nil)))))))) (fun _ => rfl) (fun _ => by show 8 ≤ 100000; decide)) (fun (x : (T8 Str Str Str Str Str Str Str Str)) => Tu.mk [x.a, x.b, x.c, x.e, x.f, x.g, x.h, x.i]) (fun _ => rfl) rfl))) : EvX K (W0 E) [iM kind_, iM body_] _ _)
          exact blk_ret L trivial (by exact hr_)
        · refine blk_nil ?_
          try refine Blk.nx ?_
          have hr_ := ((ev_orV (ev_op opx_eqI mild_ok (ev_var (i := 0) (x := kind_) rfl) (ev_int (i := 3))) (ev_call (f := (fun (p : D × Int × Unit) => m_u_law_is_data p.1 p.2.1)) (ea_cons (ev_op opx_ixT (fun x y => idx_mild x.xs y) (ev_cast (f := D.asTu) asTu_ok asTu_x (ev_var (i := 1) (x := body_) rfl)) (ev_int (i := 1))) (ea_cons (ev_int (i := 256)) ea_nil)))) : EvX K (W0 E) [iM kind_, iM body_] _ _)
          exact blk_ret L trivial (by exact hr_)
noncomputable def m_u_law_due (value_ : D) : Res Bool :=
  (((Res.need ((toD value_).plain = true) (Res.ok (isI "tuple" (toD value_)))).bind fun (t259 : Bool) => Res.ok (!t259)).bind fun b266 => cond b266 (Res.ok true) (((((Res.ok value_)).bind fun (t260 : D) => D.lenR t260).bind fun (t261 : Int) => Res.ok (!decide (t261 = (4 : Int)))).bind fun b265 => cond b265 (Res.ok true) ((((((Res.ok value_)).bind D.asTu).bind fun (t262 : (Tu D)) => idx (t262).xs (0 : Int)).bind fun (t263 : D) => Res.need ((toD t263).plain = true) (Res.ok (isI "str" (toD t263)))).bind fun (t264 : Bool) => Res.ok (!t264)))).bind fun b => cond b   ((Res.ok false))   (((Res.ok ([("state" : Str), ("admit" : Str), ("replace" : Str), ("withdraw" : Str)] : List Str))).bind fun (kinds_ : (List Str)) =>   (((((((Res.ok value_)).bind D.asTu).bind fun (t267 : (Tu D)) => idx (t267).xs (0 : Int)).bind D.asStr).bind fun (t268 : Str) => Res.ok (!decide (t268 ∈ kinds_))).bind fun b280 => cond b280 (Res.ok true) ((((((((Res.ok value_)).bind D.asTu).bind fun (t269 : (Tu D)) => idx (t269).xs (1 : Int)).bind fun a270 => Res.ok (a270, ())).bind fun p272 => m_u_law_is_text p272.1).bind fun (t273 : Bool) => Res.ok (!t273)).bind fun b279 => cond b279 (Res.ok true) (((((((Res.ok value_)).bind D.asTu).bind fun (t274 : (Tu D)) => idx (t274).xs (3 : Int)).bind fun a275 => Res.ok (a275, ((256 : Int), ()))).bind fun p277 => m_u_law_is_data p277.1 p277.2.1).bind fun (t278 : Bool) => Res.ok (!t278)))).bind fun b => cond b   ((Res.ok false))   ((((((((Res.ok value_)).bind D.asTu).bind fun (t281 : (Tu D)) => idx (t281).xs (0 : Int)).bind D.asStr).bind fun (t283 : Str) => match sfind kinds_ t283 with | some j282 => Res.ok ((j282 : Nat) : Int) | none => Res.stuck).bind fun a287 => (((((Res.ok value_)).bind D.asTu).bind fun (t284 : (Tu D)) => idx (t284).xs (2 : Int)).bind fun a285 => Res.ok (a285, ())).bind fun a288 => Res.ok (a287, a288)).bind fun p289 => m_u_law_is_body p289.1 p289.2.1))
theorem ok_u_law_due {P : Program} {w : World} {K : PySem.W.Frag} {mg : Str → Option Value} {base : Heap} (T : Facts P w K mg) {fd : FuncData} (F : FnP K "_law_due" "_law_due" s_u_law_due (He.ga K "_law_due") fd) :
    FnOk P w K mg base (L2.CX P w) 4 (He.ga K "_law_due") fd ["value"] (spM K (fun (p : D × Unit) => m_u_law_due p.1)) := by
  obtain ⟨fd_u_law_is_body, F_u_law_is_body⟩ := T.d_u_law_is_body
  have G_u_law_is_body := ok_u_law_is_body (P := P) (w := w) (base := base) T F_u_law_is_body
  have b_u_law_is_body : Binds K fd_u_law_is_body ["kind", "body"] [] := F_u_law_is_body.bindsN fun _ _ _ _ _ _ us hl => match us, hl with | [_, _], _ => rfl
  obtain ⟨fd_u_law_is_data, F_u_law_is_data⟩ := T.d_u_law_is_data
  have G_u_law_is_data := ok_u_law_is_data (P := P) (w := w) (base := base) T F_u_law_is_data
  have b_u_law_is_data : Binds K fd_u_law_is_data ["value", "most"] [] := F_u_law_is_data.bindsN fun _ _ _ _ _ _ us hl => match us, hl with | [_, _], _ => rfl
  obtain ⟨fd_u_law_is_text, F_u_law_is_text⟩ := T.d_u_law_is_text
  have G_u_law_is_text := ok_u_law_is_text (P := P) (w := w) (base := base) T F_u_law_is_text
  have b_u_law_is_text : Binds K fd_u_law_is_text ["value"] [] := F_u_law_is_text.bindsN fun _ _ _ _ _ _ us hl => match us, hl with | [_], _ => rfl
  refine fn_ok F sc_u_law_due (fun y => rfl) (fun cdv A outer s H E hr => ?_)
  refine ⟨_, (pss_cons (ps_if (PW.pt (pw_or (pt_not (pt_val (pe_callB call_isi (by rfl) T.n_isinstance (by decide +kernel) (pa_cons (pv 0) (pa_cons (pe_bltn (v := .ty "tuple") (by rfl) T.n_tuple (by decide +kernel) rfl) pa_nil))))) (pw_or (pt_cmpR op_ne (pe_callB (cr_len rfl) (by rfl) T.n_len (by decide +kernel) (pa_cons (pv 0) pa_nil)) pe_int (nomark _)) (pw_or1 (pt_not (pt_val (pe_callB call_isi (by rfl) T.n_isinstance (by decide +kernel) (pa_cons (pe_ix (cr_ixT rfl) (pv 0) pe_int (fun _ _ => rfl)) (pa_cons (pe_bltn (v := .ty "str") (by rfl) T.n_str (by decide +kernel) rfl) pa_nil))))))))) (pss_one (ps_ret pe_bl)) pss_nil) (pss_cons (ps_set (i := 1) sc_u_law_due.nd rfl (Or.inl rfl) (pe_lst (pa_cons pe_str (pa_cons pe_str (pa_cons pe_str (pa_cons pe_str pa_nil)))))) (pss_cons (ps_if (PW.pt (pw_or (pt_cmpR op_notIn_seq (pe_ix (cr_ixT rfl) (pv 0) pe_int (fun _ _ => rfl)) (pv 1) rfl) (pw_or (pt_not (pt_val (pe_callS G_u_law_is_text (hr.mono (by decide)) rfl T.g_u_law_is_text F_u_law_is_text.kp b_u_law_is_text (fun σ => passAt (takes_of rfl rfl rfl rfl) σ) (pa_cons (pe_ix (cr_ixT rfl) (pv 0) pe_int (fun _ _ => rfl)) pa_nil)))) (pw_or1 (pt_not (pt_val (pe_callS G_u_law_is_data (hr.mono (by decide)) rfl T.g_u_law_is_data F_u_law_is_data.kp b_u_law_is_data (fun σ => passAt (takes_of rfl rfl rfl rfl) σ) (pa_cons (pe_ix (cr_ixT rfl) (pv 0) pe_int (fun _ _ => rfl)) (pa_cons pe_int pa_nil))))))))) (pss_one (ps_ret pe_bl)) pss_nil) (pss_one (ps_ret (pe_callS G_u_law_is_body (hr.mono (by decide)) rfl T.g_u_law_is_body F_u_law_is_body.kp b_u_law_is_body (fun σ => passAt (takes_of rfl rfl rfl rfl) σ) (pa_cons (pe_bm PySem.F.plainAttrs_list PySem.F.slot_list_index PySem.F.type_list_index mt_index (pv 1) (pa_cons (pe_ix (cr_ixT rfl) (pv 0) pe_int (fun _ _ => rfl)) pa_nil)) (pa_cons (pe_ix (cr_ixT rfl) (pv 0) pe_int (fun _ _ => rfl)) pa_nil)))))))), ?_⟩
  rintro ⟨value_, ⟨⟩⟩ F0 H0 Q KP L
  show Blk K F0 H0 KP _ [iM value_, none] (m_u_law_due value_)
  unfold m_u_law_due
  have ht_ := ((et_or (et_not (et_B (ev_isi isi_tuple (ev_var (i := 0) (x := value_) rfl)))) (et_or (et_test (ev_op opx_neI mild_ok (ev_lenD (ev_var (i := 0) (x := value_) rfl)) (ev_int (i := 4)))) (et_not (et_B (ev_isi isi_str (ev_op opx_ixT (fun x y => idx_mild x.xs y) (ev_cast (f := D.asTu) asTu_ok asTu_x (ev_var (i := 0) (x := value_) rfl)) (ev_int (i := 0)))))))) : EvT K (W0 E) [iM value_, none] _ _)
  refine blk_seq (blk_if2 L trivial (by exact ht_) ?_ ?_)
  · have hr_ := ((ev_bl (b := false)) : EvX K (W0 E) [iM value_, none] _ _)
    exact blk_ret L trivial (by exact hr_)
  · refine blk_nil ?_
    try refine Blk.nx ?_
    have hs_ := ((ev_ofN (en_lst (f := (fun y => ([y.1, y.2.1, y.2.2.1, y.2.2.2.1] : List Str))) (ea_cons (ev_str (x := "state")) (ea_cons (ev_str (x := "admit")) (ea_cons (ev_str (x := "replace")) (ea_cons (ev_str (x := "withdraw")) ea_nil)))) (fun _ => rfl) (fun _ => by show 4 ≤ 100000; decide))) : EvX K (W0 E) [iM value_, none] _ _)
    refine blk_seq (blk_set (i := 1) L trivial (by exact hs_) fun kinds_ => ?_)
    show Blk _ _ _ _ _ [iM value_, iM kinds_] _
    try refine Blk.nx ?_
    have ht_ := ((et_or (et_test (ev_op (opx_inS true) mild_ok (ev_cast (f := D.asStr) asStr_ok asStr_x (ev_op opx_ixT (fun x y => idx_mild x.xs y) (ev_cast (f := D.asTu) asTu_ok asTu_x (ev_var (i := 0) (x := value_) rfl)) (ev_int (i := 0)))) (ev_var (i := 1) (x := kinds_) rfl))) (et_or (et_not (et_B (ev_call (f := (fun (p : D × Unit) => m_u_law_is_text p.1)) (ea_cons (ev_op opx_ixT (fun x y => idx_mild x.xs y) (ev_cast (f := D.asTu) asTu_ok asTu_x (ev_var (i := 0) (x := value_) rfl)) (ev_int (i := 1))) ea_nil)))) (et_not (et_B (ev_call (f := (fun (p : D × Int × Unit) => m_u_law_is_data p.1 p.2.1)) (ea_cons (ev_op opx_ixT (fun x y => idx_mild x.xs y) (ev_cast (f := D.asTu) asTu_ok asTu_x (ev_var (i := 0) (x := value_) rfl)) (ev_int (i := 3))) (ea_cons (ev_int (i := 256)) ea_nil))))))) : EvT K (W0 E) [iM value_, iM kinds_] _ _)
    refine blk_seq (blk_if2 L trivial (by exact ht_) ?_ ?_)
    · have hr_ := ((ev_bl (b := false)) : EvX K (W0 E) [iM value_, iM kinds_] _ _)
      exact blk_ret L trivial (by exact hr_)
    · refine blk_nil ?_
      try refine Blk.nx ?_
      have hr_ := ((ev_call (f := (fun (p : Int × D × Unit) => m_u_law_is_body p.1 p.2.1)) (ea_cons (ev_lindexS (ev_var (i := 1) (x := kinds_) rfl) (ev_cast (f := D.asStr) asStr_ok asStr_x (ev_op opx_ixT (fun x y => idx_mild x.xs y) (ev_cast (f := D.asTu) asTu_ok asTu_x (ev_var (i := 0) (x := value_) rfl)) (ev_int (i := 0))))) (ea_cons (ev_op opx_ixT (fun x y => idx_mild x.xs y) (ev_cast (f := D.asTu) asTu_ok asTu_x (ev_var (i := 0) (x := value_) rfl)) (ev_int (i := 2))) ea_nil))) : EvX K (W0 E) [iM value_, iM kinds_] _ _)
      exact blk_ret L trivial (by exact hr_)
noncomputable def m_u_law_pack_l1 (k1 : (List Int) → Res (List Int)) : List (List Int) → (List Int) → Res (List Int)
  | [], s => k1 s
  | x290 :: r1, data_ =>   (fun (part_ : (List Int)) => ((Res.need (data_.length + ([(((part_).length : Int) / (65536 : Int)), ((((part_).length : Int) / (256 : Int)) % (256 : Int)), (((part_).length : Int) % (256 : Int))] : List Int).length ≤ 16777216) (Res.ok (data_ ++ ([(((part_).length : Int) / (65536 : Int)), ((((part_).length : Int) / (256 : Int)) % (256 : Int)), (((part_).length : Int) % (256 : Int))] : List Int)))).bind fun (t291 : (List Int)) => Res.need (t291.length + part_.length ≤ 16777216) (Res.ok (t291 ++ part_))).bind fun (data_ : (List Int)) =>   m_u_law_pack_l1 k1 r1 data_) x290
noncomputable def m_u_law_pack_k2 : (List Int) → Res (List Int) := fun data_ =>   (Res.ok data_)
noncomputable def m_u_law_pack (parts_ : (List (List Int))) : Res (List Int) :=
  ((Res.ok ([] : List Int))).bind fun (data_ : (List Int)) =>   ((Res.ok parts_)).bind fun (xs292 : List (List Int)) => m_u_law_pack_l1 (m_u_law_pack_k2) xs292 data_
theorem ok_u_law_pack {P : Program} {w : World} {K : PySem.W.Frag} {mg : Str → Option Value} {base : Heap} (T : Facts P w K mg) {fd : FuncData} (F : FnP K "_law_pack" "_law_pack" s_u_law_pack (He.ga K "_law_pack") fd) :
    FnOk P w K mg base (L2.CX P w) 1 (He.ga K "_law_pack") fd ["parts"] (spM K (fun (p : (List (List Int)) × Unit) => m_u_law_pack p.1)) := by
  refine fn_ok F sc_u_law_pack (fun y => rfl) (fun cdv A outer s H E hr => ?_)
  refine ⟨_, (pss_cons (ps_set (i := 1) sc_u_law_pack.nd rfl (Or.inl rfl) (pe_lst pa_nil)) (pss_cons (ps_for (passes_of rfl) rfl (pi_list (pv 0)) (pg_name (i := 2) sc_u_law_pack.nd rfl (Or.inl rfl)) (pss_one (ps_set (i := 1) sc_u_law_pack.nd rfl (Or.inl rfl) (pe_op op_cat (pe_op op_cat (pv 1) (pe_lst (pa_cons (pe_op op_fdiv (pe_callB (cr_len rfl) (by rfl) T.n_len (by decide +kernel) (pa_cons (pv 2) pa_nil)) pe_int) (pa_cons (pe_op op_mod (pe_op op_fdiv (pe_callB (cr_len rfl) (by rfl) T.n_len (by decide +kernel) (pa_cons (pv 2) pa_nil)) pe_int) pe_int) (pa_cons (pe_op op_mod (pe_callB (cr_len rfl) (by rfl) T.n_len (by decide +kernel) (pa_cons (pv 2) pa_nil)) pe_int) pa_nil))))) (pv 2))))) (pss_one (ps_ret (pv 1))))), ?_⟩
  rintro ⟨parts_, ⟨⟩⟩ F0 H0 Q KP L
  show Blk K F0 H0 KP _ [iM parts_, none, none] (m_u_law_pack parts_)
  unfold m_u_law_pack
  have hs_ := ((ev_ofN (en_lst (f := (fun y => ([] : List Int))) ea_nil (fun _ => rfl) (fun _ => by show 0 ≤ 100000; decide))) : EvX K (W0 E) [iM parts_, none, none] _ _)
  refine blk_seq (blk_set (i := 1) L trivial (by exact hs_) fun data_ => ?_)
  show Blk _ _ _ _ _ [iM parts_, iM data_, none] _
  try refine Blk.nx ?_
  have hi_ := ((ei_list (ev_var (i := 0) (x := parts_) rfl)) : EvI K (W0 E) [iM parts_, iM data_, none] _ _)
  refine blk_seq (blk_for (S := (List Int)) (m_u_law_pack_l1 (m_u_law_pack_k2)) (m_u_law_pack_k2) (fun data_ => [iM parts_, iM data_, none]) data_ L trivial (by exact hi_) (fun _ => gx_name) (.same (.same (.same .nil))) (fun _ => rfl) ?_ ?_)
  · intro F1 L1 hB1 x290 r1 s_ N_ hN1
    revert s_; intro data_
    show Blk _ _ _ _ _ [iM parts_, iM data_, iM x290] (m_u_law_pack_l1 (m_u_law_pack_k2) (x290 :: r1) data_)
    rw [m_u_law_pack_l1]
    show Blk _ _ _ _ _ _ ((fun (part_ : (List Int)) => _) x290)
    generalize x290 = part_
    show Blk _ _ _ _ _ [iM parts_, iM data_, iM part_] _
    have hs_ := ((ev_ofN (en_cat (ev_ofN (en_cat (ev_var (i := 1) (x := data_) rfl) (ev_ofN (en_lst (f := (fun y => ([y.1, y.2.1, y.2.2.1] : List Int))) (ea_cons (ev_opI (C := CDiv) (g := fun i j => i / j) (fun x y _ h => by cases h; exact ⟨by decide, by decide⟩) (ev_cb cx_len (fun _ _ h => nomatch h) (ea_cons (ev_var (i := 2) (x := part_) rfl) ea_nil)) (ev_int (i := 65536))) (ea_cons (ev_opI (C := (fun _ j => 0 < j)) (g := fun i j => i % j) (fun x y _ h => by cases h; (show (0 : Int) < _; decide)) (ev_opI (C := CDiv) (g := fun i j => i / j) (fun x y _ h => by cases h; exact ⟨by decide, by decide⟩) (ev_cb cx_len (fun _ _ h => nomatch h) (ea_cons (ev_var (i := 2) (x := part_) rfl) ea_nil)) (ev_int (i := 256))) (ev_int (i := 256))) (ea_cons (ev_opI (C := (fun _ j => 0 < j)) (g := fun i j => i % j) (fun x y _ h => by cases h; (show (0 : Int) < _; decide)) (ev_cb cx_len (fun _ _ h => nomatch h) (ea_cons (ev_var (i := 2) (x := part_) rfl) ea_nil)) (ev_int (i := 256))) ea_nil))) (fun _ => rfl) (fun _ => by show 3 ≤ 100000; decide))))) (ev_var (i := 2) (x := part_) rfl))) : EvX K (W0 E) [iM parts_, iM data_, iM part_] _ _)
    refine blk_set (i := 1) L1 trivial (by exact hs_) fun data_ => ?_
    show Blk _ _ _ _ _ [iM parts_, iM data_, iM part_] _
    try refine Blk.nx ?_
    exact (hN1 data_).weak (.same (.same (.drop .nil)))
  · intro data_
    show Blk _ _ _ _ _ [iM parts_, iM data_, none] ((m_u_law_pack_k2) data_)
    unfold m_u_law_pack_k2
    try refine Blk.nx ?_
    have hr_ := ((ev_var (i := 1) (x := data_) rfl) : EvX K (W0 E) [iM parts_, iM data_, none] _ _)
    exact blk_ret L trivial (by exact hr_)
noncomputable def m_law_l1 (script_ : (Ro Int)) (k1 : Unit → Res Bool) : List Int → Unit → Res Bool
  | [], s => k1 s
  | x293 :: r1, _ =>   (fun (k_ : Int) => (m_u_law_value script_ k_).bind fun (value_ : D) =>   (m_is_entry value_).bind fun (found_ : Bool) =>   (((Res.need ((toD found_).plain = true) (Res.ok (isI "bool" (toD found_)))).bind fun (t294 : Bool) => Res.ok (!t294)).bind fun b296 => cond b296 (Res.ok true) ((m_u_law_due value_).bind fun (t295 : Bool) => Res.ok (!(found_ == t295)))).bind fun b => cond b   ((Res.ok false))   (m_law_l1 script_ k1 r1 ())) x293
noncomputable def m_law_l2 (k2 : Unit → Res Bool) : List Int → Unit → Res Bool
  | [], s => k2 s
  | x297 :: r2, _ =>   (fun (k_ : Int) => ((((m_u_law_other k_).bind fun a298 => Res.ok (a298, ())).bind fun p300 => m_is_entry p300.1).bind fun (t301 : Bool) => Res.ok (!decide (t301 = false))).bind fun b => cond b   ((Res.ok false))   (m_law_l2 k2 r2 ())) x297
noncomputable def m_law_l3 (script_ : (Ro Int)) (k3 : (List (List Int)) → Res Bool) : List Int → (List (List Int)) → Res Bool
  | [], s => k3 s
  | x304 :: r3, parts_ =>   (fun (k_ : Int) => (((m_u_law_cell script_ ((25 : Int) + k_)).bind fun a305 => Res.ok (a305, ())).bind fun p307 => Res.ok (Int.natAbs p307.1 : Int)).bind fun (cell_ : Int) =>   ((m_u_law_bytes (cell_ / (300 : Int)) (cell_ % (300 : Int))).bind fun z => Res.ok z.xs).bind fun (y308 : (List Int)) => Res.need (parts_.length < 16777216) ((fun (parts_ : (List (List Int))) =>   m_law_l3 script_ k3 r3 parts_) (parts_ ++ [y308]))) x304
noncomputable def m_law_k4 : (List (List Int)) → Res Bool := fun parts_ =>   (((Res.ok parts_)).bind fun (xs311 : List (List Int)) => Res.need (xs311.length ≤ 16777216) (compL (fun (x310 : (List Int)) => Res.ok true) (fun (x310 : (List Int)) => (Res.ok x310)) xs311)).bind fun (given_ : (List (List Int))) =>   ((((m_pack given_).bind fun (x : (List Int)) => Res.ok (toD x)).bind fun a314 => ((m_u_law_pack parts_).bind fun a312 => Res.ok (a312, ())).bind fun a315 => Res.ok (a314, a315)).bind fun p316 => m_u_law_is_list p316.1 p316.2.1).bind fun b317 => cond b317 (Res.need ((toD given_).okq = true ∧ (toD parts_).okq = true) (Res.ok (pyEq (toD given_) (toD parts_)))) (Res.ok false)
noncomputable def m_law_k5 (script_ : (Ro Int)) : Unit → Res Bool := fun _ =>   ((Res.ok ([] : List (List Int)))).bind fun (parts_ : (List (List Int))) =>   (((m_u_law_cell script_ (24 : Int)).bind fun (t302 : Int) => Res.ok (t302 % (5 : Int))).bind fun (t303 : Int) => Res.need (okRange t303) (Res.ok (pyRange 0 t303))).bind fun (xs318 : List Int) => m_law_l3 script_ (m_law_k4) xs318 parts_
noncomputable def m_law_k6 (script_ : (Ro Int)) : Unit → Res Bool := fun _ =>   (Res.need (okRange (8 : Int)) (Res.ok (pyRange 0 (8 : Int)))).bind fun (xs319 : List Int) => m_law_l2 (m_law_k5 script_) xs319 ()
noncomputable def m_law (script_ : (Ro Int)) : Res Bool :=
  (Res.need (okRange (6 : Int)) (Res.ok (pyRange 0 (6 : Int)))).bind fun (xs320 : List Int) => m_law_l1 script_ (m_law_k6 script_) xs320 ()
theorem ok_law {P : Program} {w : World} {K : PySem.W.Frag} {mg : Str → Option Value} {base : Heap} (T : Facts P w K mg) {fd : FuncData} (F : FnP K "law" "law" s_law (He.ga K "law") fd) :
    FnOk P w K mg base (L2.CX P w) 6 (He.ga K "law") fd ["script"] (spM K (fun (p : (Ro Int) × Unit) => m_law p.1)) := by
  obtain ⟨fd_u_law_bytes, F_u_law_bytes⟩ := T.d_u_law_bytes
  have G_u_law_bytes := ok_u_law_bytes (P := P) (w := w) (base := base) T F_u_law_bytes
  have b_u_law_bytes : Binds K fd_u_law_bytes ["cell", "size"] [] := F_u_law_bytes.bindsN fun _ _ _ _ _ _ us hl => match us, hl with | [_, _], _ => rfl
  obtain ⟨fd_u_law_cell, F_u_law_cell⟩ := T.d_u_law_cell
  have G_u_law_cell := ok_u_law_cell (P := P) (w := w) (base := base) T F_u_law_cell
  have b_u_law_cell : Binds K fd_u_law_cell ["script", "k"] [] := F_u_law_cell.bindsN fun _ _ _ _ _ _ us hl => match us, hl with | [_, _], _ => rfl
  obtain ⟨fd_u_law_due, F_u_law_due⟩ := T.d_u_law_due
  have G_u_law_due := ok_u_law_due (P := P) (w := w) (base := base) T F_u_law_due
  have b_u_law_due : Binds K fd_u_law_due ["value"] [] := F_u_law_due.bindsN fun _ _ _ _ _ _ us hl => match us, hl with | [_], _ => rfl
  obtain ⟨fd_u_law_is_list, F_u_law_is_list⟩ := T.d_u_law_is_list
  have G_u_law_is_list := ok_u_law_is_list (P := P) (w := w) (base := base) T F_u_law_is_list
  have b_u_law_is_list : Binds K fd_u_law_is_list ["found", "due"] [] := F_u_law_is_list.bindsN fun _ _ _ _ _ _ us hl => match us, hl with | [_, _], _ => rfl
  obtain ⟨fd_u_law_other, F_u_law_other⟩ := T.d_u_law_other
  have G_u_law_other := ok_u_law_other (P := P) (w := w) (base := base) T F_u_law_other
  have b_u_law_other : Binds K fd_u_law_other ["cell"] [] := F_u_law_other.bindsN fun _ _ _ _ _ _ us hl => match us, hl with | [_], _ => rfl
  obtain ⟨fd_u_law_pack, F_u_law_pack⟩ := T.d_u_law_pack
  have G_u_law_pack := ok_u_law_pack (P := P) (w := w) (base := base) T F_u_law_pack
  have b_u_law_pack : Binds K fd_u_law_pack ["parts"] [] := F_u_law_pack.bindsN fun _ _ _ _ _ _ us hl => match us, hl with | [_], _ => rfl
  obtain ⟨fd_u_law_value, F_u_law_value⟩ := T.d_u_law_value
  have G_u_law_value := ok_u_law_value (P := P) (w := w) (base := base) T F_u_law_value
  have b_u_law_value : Binds K fd_u_law_value ["script", "k"] [] := F_u_law_value.bindsN fun _ _ _ _ _ _ us hl => match us, hl with | [_, _], _ => rfl
  obtain ⟨fd_is_entry, F_is_entry⟩ := T.d_is_entry
  have G_is_entry := ok_is_entry (P := P) (w := w) (base := base) T F_is_entry
  have b_is_entry : Binds K fd_is_entry ["value"] [] := F_is_entry.bindsN fun _ _ _ _ _ _ us hl => match us, hl with | [_], _ => rfl
  obtain ⟨fd_pack, F_pack⟩ := T.d_pack
  have G_pack := ok_pack (P := P) (w := w) (base := base) T F_pack
  have b_pack : Binds K fd_pack ["parts"] [] := F_pack.bindsN fun _ _ _ _ _ _ us hl => match us, hl with | [_], _ => rfl
  refine fn_ok F sc_law (fun y => rfl) (fun cdv A outer s H E hr => ?_)
  refine ⟨_, (pss_cons (ps_for (passes_of rfl) rfl (pi_range1 rfl T.n_range (pa_cons pe_int pa_nil)) (pg_name (i := 1) sc_law.nd rfl (Or.inl rfl)) (pss_cons (ps_set (i := 2) sc_law.nd rfl (Or.inl rfl) (pe_callS G_u_law_value (hr.mono (by decide)) rfl T.g_u_law_value F_u_law_value.kp b_u_law_value (fun σ => passAt (takes_of rfl rfl rfl rfl) σ) (pa_cons (pv 0) (pa_cons (pv 1) pa_nil)))) (pss_cons (ps_set (i := 3) sc_law.nd rfl (Or.inl rfl) (pe_callS G_is_entry (hr.mono (by decide)) rfl T.g_is_entry F_is_entry.kp b_is_entry (fun σ => passAt (takes_of rfl rfl rfl rfl) σ) (pa_cons (pv 2) pa_nil))) (pss_one (ps_if (PW.pt (pw_or (pt_not (pt_val (pe_callB call_isi (by rfl) T.n_isinstance (by decide +kernel) (pa_cons (pv 3) (pa_cons (pe_bltn (v := .ty "bool") (by rfl) T.n_bool (by decide +kernel) rfl) pa_nil))))) (pw_or1 (pt_cmpR op_ne (pv 3) (pe_callS G_u_law_due (hr.mono (by decide)) rfl T.g_u_law_due F_u_law_due.kp b_u_law_due (fun σ => passAt (takes_of rfl rfl rfl rfl) σ) (pa_cons (pv 2) pa_nil)) (nomark _))))) (pss_one (ps_ret pe_bl)) pss_nil))))) (pss_cons (ps_for (passes_of rfl) rfl (pi_range1 rfl T.n_range (pa_cons pe_int pa_nil)) (pg_name (i := 1) sc_law.nd rfl (Or.inl rfl)) (pss_one (ps_if (pt_cmpR op_notBl (pe_callS G_is_entry (hr.mono (by decide)) rfl T.g_is_entry F_is_entry.kp b_is_entry (fun σ => passAt (takes_of rfl rfl rfl rfl) σ) (pa_cons (pe_callS G_u_law_other (hr.mono (by decide)) rfl T.g_u_law_other F_u_law_other.kp b_u_law_other (fun σ => passAt (takes_of rfl rfl rfl rfl) σ) (pa_cons (pv 1) pa_nil)) pa_nil)) pe_bl (nomark _)) (pss_one (ps_ret pe_bl)) pss_nil))) (pss_cons (ps_set (i := 4) sc_law.nd rfl (Or.inl rfl) (pe_lst pa_nil)) (pss_cons (ps_for (passes_of rfl) rfl (pi_range1 rfl T.n_range (pa_cons (pe_op op_mod (pe_callS G_u_law_cell (hr.mono (by decide)) rfl T.g_u_law_cell F_u_law_cell.kp b_u_law_cell (fun σ => passAt (takes_of rfl rfl rfl rfl) σ) (pa_cons (pv 0) (pa_cons pe_int pa_nil))) pe_int) pa_nil)) (pg_name (i := 1) sc_law.nd rfl (Or.inl rfl)) (pss_cons (ps_set (i := 5) sc_law.nd rfl (Or.inl rfl) (pe_callB call_abs (by rfl) T.n_abs (by decide +kernel) (pa_cons (pe_callS G_u_law_cell (hr.mono (by decide)) rfl T.g_u_law_cell F_u_law_cell.kp b_u_law_cell (fun σ => passAt (takes_of rfl rfl rfl rfl) σ) (pa_cons (pv 0) (pa_cons (pe_op op_add pe_int (pv 1)) pa_nil))) pa_nil))) (pss_one (ps_expr (pe_bm PySem.F.plainAttrs_list PySem.F.slot_list_append PySem.F.type_list_append mt_append (pv 4) (pa_cons (pe_callS G_u_law_bytes (hr.mono (by decide)) rfl T.g_u_law_bytes F_u_law_bytes.kp b_u_law_bytes (fun σ => passAt (takes_of rfl rfl rfl rfl) σ) (pa_cons (pe_op op_fdiv (pv 5) pe_int) (pa_cons (pe_op op_mod (pv 5) pe_int) pa_nil))) pa_nil)))))) (pss_cons (ps_setLc (i := 6) (own := [("part", 7)]) rfl sc_law.nd rfl rfl (sw_true rfl rfl rfl (by decide +kernel)) (pi_list (pv 4)) (blkOk_by (own := [("part", 7)]) (N := ["script", "k", "value", "found", "parts", "cell", "given", "part"]) (sc := defScope s_law) (by decide +kernel)) (fun _ _ _ _ _ => (pg_name (i := 7) sc_law.nd rfl (Or.inl rfl))) (fun _ _ _ _ _ => pts_nil) (fun _ _ _ _ _ => (pe_callTy (T := "list") (cr_listof rfl) (by rfl) T.n_list (by decide +kernel) (pa_cons (pv 7) pa_nil)))) (pss_one (ps_ret (pe_and (pe_callS G_u_law_is_list (hr.mono (by decide)) rfl T.g_u_law_is_list F_u_law_is_list.kp b_u_law_is_list (fun σ => passAt (takes_of rfl rfl rfl rfl) σ) (pa_cons (pe_callS G_pack (hr.mono (by decide)) rfl T.g_pack F_pack.kp b_pack (fun σ => passAt (takes_of rfl rfl rfl rfl) σ) (pa_cons (pv 6) pa_nil)) (pa_cons (pe_callS G_u_law_pack (hr.mono (by decide)) rfl T.g_u_law_pack F_u_law_pack.kp b_u_law_pack (fun σ => passAt (takes_of rfl rfl rfl rfl) σ) (pa_cons (pv 4) pa_nil)) pa_nil))) (pe_one (pe_cmpR (op_eqD (Room.units hr)) (pv 6) (pv 4) (nomark _))))))))))), ?_⟩
  rintro ⟨script_, ⟨⟩⟩ F0 H0 Q KP L
  show Blk K F0 H0 KP _ [iM script_, none, none, none, none, none, none, none] (m_law script_)
  unfold m_law
  have hi_ := ((ei_range1 (ev_int (i := 6))) : EvI K (W0 E) [iM script_, none, none, none, none, none, none, none] _ _)
  refine blk_seq (blk_for (S := Unit) (m_law_l1 script_ (m_law_k6 script_)) (m_law_k6 script_) (fun _ => [iM script_, none, none, none, none, none, none, none]) () L trivial (by exact hi_) (fun _ => gx_name) (.same (.same (.same (.same (.same (.same (.same (.same .nil)))))))) (fun _ => rfl) ?_ ?_)
  · intro F1 L1 hB1 x293 r1 s_ N_ hN1
    obtain ⟨⟩ := s_
    show Blk _ _ _ _ _ [iM script_, iM x293, none, none, none, none, none, none] (m_law_l1 script_ (m_law_k6 script_) (x293 :: r1) ())
    rw [m_law_l1]
    show Blk _ _ _ _ _ _ ((fun (k_ : Int) => _) x293)
    generalize x293 = k_
    show Blk _ _ _ _ _ [iM script_, iM k_, none, none, none, none, none, none] _
    have hs_ := ((ev_call (f := (fun (p : (Ro Int) × Int × Unit) => m_u_law_value p.1 p.2.1)) (ea_cons (ev_var (i := 0) (x := script_) rfl) (ea_cons (ev_var (i := 1) (x := k_) rfl) ea_nil))) : EvX K (W0 E) [iM script_, iM k_, none, none, none, none, none, none] _ _)
    refine blk_seq (blk_set (i := 2) L1 trivial (by exact hs_) fun value_ => ?_)
    show Blk _ _ _ _ _ [iM script_, iM k_, iM value_, none, none, none, none, none] _
    try refine Blk.nx ?_
    have hs_ := ((ev_call (f := (fun (p : D × Unit) => m_is_entry p.1)) (ea_cons (ev_var (i := 2) (x := value_) rfl) ea_nil)) : EvX K (W0 E) [iM script_, iM k_, iM value_, none, none, none, none, none] _ _)
    refine blk_seq (blk_set (i := 3) L1 trivial (by exact hs_) fun found_ => ?_)
    show Blk _ _ _ _ _ [iM script_, iM k_, iM value_, iM found_, none, none, none, none] _
    try refine Blk.nx ?_
    have ht_ := ((et_or (et_not (et_B (ev_isi isi_bool (ev_var (i := 3) (x := found_) rfl)))) (et_test (ev_op opx_neB mild_ok (ev_var (i := 3) (x := found_) rfl) (ev_call (f := (fun (p : D × Unit) => m_u_law_due p.1)) (ea_cons (ev_var (i := 2) (x := value_) rfl) ea_nil))))) : EvT K (W0 E) [iM script_, iM k_, iM value_, iM found_, none, none, none, none] _ _)
    refine blk_if2 L1 trivial (by exact ht_) ?_ ?_
    · have hr_ := ((ev_bl (b := false)) : EvX K (W0 E) [iM script_, iM k_, iM value_, iM found_, none, none, none, none] _ _)
      exact blk_ret L1 trivial (by exact hr_)
    · refine blk_nil ?_
      try refine Blk.nx ?_
      exact (hN1 ()).weak (.same (.drop (.drop (.drop (.same (.same (.same (.same .nil))))))))
  · intro _
    show Blk _ _ _ _ _ [iM script_, none, none, none, none, none, none, none] ((m_law_k6 script_) ())
    unfold m_law_k6
    try refine Blk.nx ?_
    have hi_ := ((ei_range1 (ev_int (i := 8))) : EvI K (W0 E) [iM script_, none, none, none, none, none, none, none] _ _)
    refine blk_seq (blk_for (S := Unit) (m_law_l2 (m_law_k5 script_)) (m_law_k5 script_) (fun _ => [iM script_, none, none, none, none, none, none, none]) () L trivial (by exact hi_) (fun _ => gx_name) (.same (.same (.same (.same (.same (.same (.same (.same .nil)))))))) (fun _ => rfl) ?_ ?_)
    · intro F2 L2 hB2 x297 r2 s_ N_ hN2
      obtain ⟨⟩ := s_
      show Blk _ _ _ _ _ [iM script_, iM x297, none, none, none, none, none, none] (m_law_l2 (m_law_k5 script_) (x297 :: r2) ())
      rw [m_law_l2]
      show Blk _ _ _ _ _ _ ((fun (k_ : Int) => _) x297)
      generalize x297 = k_
      show Blk _ _ _ _ _ [iM script_, iM k_, none, none, none, none, none, none] _
      have ht_ := ((et_test (ev_op opx_notB mild_ok (ev_call (f := (fun (p : D × Unit) => m_is_entry p.1)) (ea_cons (ev_call (f := (fun (p : Int × Unit) => m_u_law_other p.1)) (ea_cons (ev_var (i := 1) (x := k_) rfl) ea_nil)) ea_nil)) (ev_bl (b := false)))) : EvT K (W0 E) [iM script_, iM k_, none, none, none, none, none, none] _ _)
      refine blk_if2 L2 trivial (by exact ht_) ?_ ?_
      · have hr_ := ((ev_bl (b := false)) : EvX K (W0 E) [iM script_, iM k_, none, none, none, none, none, none] _ _)
        exact blk_ret L2 trivial (by exact hr_)
      · refine blk_nil ?_
        try refine Blk.nx ?_
        exact (hN2 ()).weak (.same (.drop (.same (.same (.same (.same (.same (.same .nil))))))))
    · intro _
      show Blk _ _ _ _ _ [iM script_, none, none, none, none, none, none, none] ((m_law_k5 script_) ())
      unfold m_law_k5
      try refine Blk.nx ?_
      have hs_ := ((en_lst (f := (fun y => ([] : List (List Int)))) ea_nil (fun _ => rfl) (fun _ => by show 0 ≤ 100000; decide)) : EvN K (W0 E) [iM script_, none, none, none, none, none, none, none] _ _)
      refine blk_seq (blk_own (i := 4) L trivial (by exact hs_) fun parts_ => ?_)
      show Blk _ _ _ _ _ [iM script_, none, none, none, oW parts_, none, none, none] _
      try refine Blk.nx ?_
      have hi_ := ((ei_range1 (ev_opI (C := (fun _ j => 0 < j)) (g := fun i j => i % j) (fun x y _ h => by cases h; (show (0 : Int) < _; decide)) (ev_call (f := (fun (p : (Ro Int) × Int × Unit) => m_u_law_cell p.1 p.2.1)) (ea_cons (ev_var (i := 0) (x := script_) rfl) (ea_cons (ev_int (i := 24)) ea_nil))) (ev_int (i := 5)))) : EvI K (W0 E) [iM script_, none, none, none, oW parts_, none, none, none] _ _)
      refine blk_seq (blk_for (S := (List (List Int))) (m_law_l3 script_ (m_law_k4)) (m_law_k4) (fun parts_ => [iM script_, none, none, none, oW parts_, none, none, none]) parts_ L trivial (by exact hi_) (fun _ => gx_name) (.same (.same (.same (.same (.same (.same (.same (.same .nil)))))))) (fun _ => rfl) ?_ ?_)
      · intro F3 L3 hB3 x304 r3 s_ N_ hN3
        revert s_; intro parts_
        show Blk _ _ _ _ _ [iM script_, iM x304, none, none, oW parts_, none, none, none] (m_law_l3 script_ (m_law_k4) (x304 :: r3) parts_)
        rw [m_law_l3]
        show Blk _ _ _ _ _ _ ((fun (k_ : Int) => _) x304)
        generalize x304 = k_
        show Blk _ _ _ _ _ [iM script_, iM k_, none, none, oW parts_, none, none, none] _
        have hs_ := ((ev_cb cx_abs (fun _ _ h => nomatch h) (ea_cons (ev_call (f := (fun (p : (Ro Int) × Int × Unit) => m_u_law_cell p.1 p.2.1)) (ea_cons (ev_var (i := 0) (x := script_) rfl) (ea_cons (ev_op (opx_I0 (g := fun i j => i + j)) mild_ok (ev_int (i := 25)) (ev_var (i := 1) (x := k_) rfl)) ea_nil))) ea_nil)) : EvX K (W0 E) [iM script_, iM k_, none, none, oW parts_, none, none, none] _ _)
        refine blk_seq (blk_set (i := 5) L3 trivial (by exact hs_) fun cell_ => ?_)
        show Blk _ _ _ _ _ [iM script_, iM k_, none, none, oW parts_, iM cell_, none, none] _
        try refine Blk.nx ?_
        have hs_ := ((ev_ofN (ev_callW (f := (fun (p : Int × Int × Unit) => m_u_law_bytes p.1 p.2.1)) (ea_cons (ev_opI (C := CDiv) (g := fun i j => i / j) (fun x y _ h => by cases h; exact ⟨by decide, by decide⟩) (ev_var (i := 5) (x := cell_) rfl) (ev_int (i := 300))) (ea_cons (ev_opI (C := (fun _ j => 0 < j)) (g := fun i j => i % j) (fun x y _ h => by cases h; (show (0 : Int) < _; decide)) (ev_var (i := 5) (x := cell_) rfl) (ev_int (i := 300))) ea_nil)))) : EvX K (W0 E) [iM script_, iM k_, none, none, oW parts_, iM cell_, none, none] _ _)
        refine blk_app (i := 4) (xs := parts_) L3 trivial rfl (by exact hs_) fun y309 => ?_
        show Blk _ _ _ _ _ [iM script_, iM k_, none, none, oW ((parts_ ++ [y309])), iM cell_, none, none] ((fun (parts_ : (List (List Int))) => _) (parts_ ++ [y309]))
        generalize parts_ ++ [y309] = parts_
        show Blk _ _ _ _ _ [iM script_, iM k_, none, none, oW parts_, iM cell_, none, none] _
        try refine Blk.nx ?_
        exact (hN3 parts_).weak (.same (.drop (.same (.same (.same (.drop (.same (.same .nil))))))))
      · intro parts_
        show Blk _ _ _ _ _ [iM script_, none, none, none, oW parts_, none, none, none] ((m_law_k4) parts_)
        unfold m_law_k4
        try refine Blk.nx ?_
        refine blk_freeze 4 rfl ?_
        show Blk _ _ _ _ _ [iM script_, none, none, none, iM parts_, none, none, none] _
        have hs_ := ((ev_ofN (ev_comp (tst := fun (x310 : (List Int)) => Res.ok true) (el := fun (x310 : (List Int)) => (Res.ok x310)) (ws := [7]) (ei_list (ev_var (i := 4) (x := parts_) rfl)) (fun _ => gx_name) (fun x310 => et_yes) (fun x310 => ((ev_ofN (en_list (ev_var (i := 7) (x := x310) rfl))) : EvX K WT [iM script_, none, none, none, iM parts_, none, none, iM x310] _ _)))) : EvX K (W0 E) [iM script_, none, none, none, iM parts_, none, none, none] _ _)
        refine blk_seq (blk_set (i := 6) L trivial (by exact hs_) fun given_ => ?_)
        show Blk _ _ _ _ _ [iM script_, none, none, none, iM parts_, none, iM given_, none] _
        try refine Blk.nx ?_
        have hr_ := ((ev_andV (ev_call (f := (fun (p : D × (List Int) × Unit) => m_u_law_is_list p.1 p.2.1)) (ea_cons (ev_as (ev_call (f := (fun (p : (List (List Int)) × Unit) => m_pack p.1)) (ea_cons (ev_var (i := 6) (x := given_) rfl) ea_nil)) toD (fun _ => rfl) rfl) (ea_cons (ev_call (f := (fun (p : (List (List Int)) × Unit) => m_u_law_pack p.1)) (ea_cons (ev_var (i := 4) (x := parts_) rfl) ea_nil)) ea_nil))) (ev_op opx_eqD mild_need (ev_var (i := 6) (x := given_) rfl) (ev_var (i := 4) (x := parts_) rfl))) : EvX K (W0 E) [iM script_, none, none, none, iM parts_, none, iM given_, none] _ _)
        exact blk_ret L trivial (by exact hr_)
theorem facts_of {K : PySem.W.Frag} {h : Heap} {w : World} {mg : Str → Option Value} (X : K.In h) (G : h.Ns mainGlobals mg) (c : SaysY fas dfs tbs sus exB w K) : Facts Rw.prog w K mg := by
  have cd : He.SaysD fas dfs K := c.t.d
  exact {
    d_is_whole := cd.def_ 0 (d := ⟨("is_whole", none), "is_whole", "is_whole", defArgs s_is_whole, defBody s_is_whole, defScope s_is_whole, [], []⟩) rfl
    g_is_whole := He.glo_ok X G (cd.fact 0 rfl)
    d_to_little := cd.def_ 1 (d := ⟨("to_little", none), "to_little", "to_little", defArgs s_to_little, defBody s_to_little, defScope s_to_little, [], []⟩) rfl
    g_to_little := He.glo_ok X G (cd.fact 1 rfl)
    d_to_big := cd.def_ 2 (d := ⟨("to_big", none), "to_big", "to_big", defArgs s_to_big, defBody s_to_big, defScope s_to_big, [], []⟩) rfl
    g_to_big := He.glo_ok X G (cd.fact 2 rfl)
    d_is_bytes := cd.def_ 3 (d := ⟨("is_bytes", none), "is_bytes", "is_bytes", defArgs s_is_bytes, defBody s_is_bytes, defScope s_is_bytes, [], []⟩) rfl
    g_is_bytes := He.glo_ok X G (cd.fact 3 rfl)
    d_ascii_codes := cd.def_ 4 (d := ⟨("ascii_codes", none), "ascii_codes", "ascii_codes", defArgs s_ascii_codes, defBody s_ascii_codes, defScope s_ascii_codes, [], []⟩) rfl
    g_ascii_codes := He.glo_ok X G (cd.fact 4 rfl)
    d_is_entry := cd.def_ 5 (d := ⟨("is_entry", none), "is_entry", "is_entry", defArgs s_is_entry, defBody s_is_entry, defScope s_is_entry, [], []⟩) rfl
    g_is_entry := He.glo_ok X G (cd.fact 5 rfl)
    d_u_is_body := cd.def_ 6 (d := ⟨("_is_body", none), "_is_body", "_is_body", defArgs s_u_is_body, defBody s_u_is_body, defScope s_u_is_body, [], []⟩) rfl
    g_u_is_body := He.glo_ok X G (cd.fact 6 rfl)
    d_u_is_byte_tuple := cd.def_ 7 (d := ⟨("_is_byte_tuple", none), "_is_byte_tuple", "_is_byte_tuple", defArgs s_u_is_byte_tuple, defBody s_u_is_byte_tuple, defScope s_u_is_byte_tuple, [], []⟩) rfl
    g_u_is_byte_tuple := He.glo_ok X G (cd.fact 7 rfl)
    d_u_is_text := cd.def_ 8 (d := ⟨("_is_text", none), "_is_text", "_is_text", defArgs s_u_is_text, defBody s_u_is_text, defScope s_u_is_text, [], []⟩) rfl
    g_u_is_text := He.glo_ok X G (cd.fact 8 rfl)
    d_pack := cd.def_ 9 (d := ⟨("pack", none), "pack", "pack", defArgs s_pack, defBody s_pack, defScope s_pack, [], []⟩) rfl
    g_pack := He.glo_ok X G (cd.fact 9 rfl)
    d_u_law_cell := cd.def_ 10 (d := ⟨("_law_cell", none), "_law_cell", "_law_cell", defArgs s_u_law_cell, defBody s_u_law_cell, defScope s_u_law_cell, [], []⟩) rfl
    g_u_law_cell := He.glo_ok X G (cd.fact 10 rfl)
    d_u_law_twice := cd.def_ 11 (d := ⟨("_law_twice", none), "_law_twice", "_law_twice", defArgs s_u_law_twice, defBody s_u_law_twice, defScope s_u_law_twice, [], []⟩) rfl
    g_u_law_twice := He.glo_ok X G (cd.fact 11 rfl)
    d_u_law_bytes := cd.def_ 12 (d := ⟨("_law_bytes", none), "_law_bytes", "_law_bytes", defArgs s_u_law_bytes, defBody s_u_law_bytes, defScope s_u_law_bytes, [], []⟩) rfl
    g_u_law_bytes := He.glo_ok X G (cd.fact 12 rfl)
    d_u_law_integer := cd.def_ 13 (d := ⟨("_law_integer", none), "_law_integer", "_law_integer", defArgs s_u_law_integer, defBody s_u_law_integer, defScope s_u_law_integer, [], []⟩) rfl
    g_u_law_integer := He.glo_ok X G (cd.fact 13 rfl)
    d_u_law_is_list := cd.def_ 14 (d := ⟨("_law_is_list", none), "_law_is_list", "_law_is_list", defArgs s_u_law_is_list, defBody s_u_law_is_list, defScope s_u_law_is_list, [], []⟩) rfl
    g_u_law_is_list := He.glo_ok X G (cd.fact 14 rfl)
    d_u_law_text := cd.def_ 15 (d := ⟨("_law_text", none), "_law_text", "_law_text", defArgs s_u_law_text, defBody s_u_law_text, defScope s_u_law_text, [], []⟩) rfl
    g_u_law_text := He.glo_ok X G (cd.fact 15 rfl)
    d_u_law_data := cd.def_ 16 (d := ⟨("_law_data", none), "_law_data", "_law_data", defArgs s_u_law_data, defBody s_u_law_data, defScope s_u_law_data, [], []⟩) rfl
    g_u_law_data := He.glo_ok X G (cd.fact 16 rfl)
    d_u_law_rights := cd.def_ 17 (d := ⟨("_law_rights", none), "_law_rights", "_law_rights", defArgs s_u_law_rights, defBody s_u_law_rights, defScope s_u_law_rights, [], []⟩) rfl
    g_u_law_rights := He.glo_ok X G (cd.fact 17 rfl)
    d_u_law_body := cd.def_ 18 (d := ⟨("_law_body", none), "_law_body", "_law_body", defArgs s_u_law_body, defBody s_u_law_body, defScope s_u_law_body, [], []⟩) rfl
    g_u_law_body := He.glo_ok X G (cd.fact 18 rfl)
    d_u_law_other := cd.def_ 19 (d := ⟨("_law_other", none), "_law_other", "_law_other", defArgs s_u_law_other, defBody s_u_law_other, defScope s_u_law_other, [], []⟩) rfl
    g_u_law_other := He.glo_ok X G (cd.fact 19 rfl)
    d_u_law_value := cd.def_ 20 (d := ⟨("_law_value", none), "_law_value", "_law_value", defArgs s_u_law_value, defBody s_u_law_value, defScope s_u_law_value, [], []⟩) rfl
    g_u_law_value := He.glo_ok X G (cd.fact 20 rfl)
    d_u_law_is_text := cd.def_ 21 (d := ⟨("_law_is_text", none), "_law_is_text", "_law_is_text", defArgs s_u_law_is_text, defBody s_u_law_is_text, defScope s_u_law_is_text, [], []⟩) rfl
    g_u_law_is_text := He.glo_ok X G (cd.fact 21 rfl)
    d_u_law_is_data := cd.def_ 22 (d := ⟨("_law_is_data", none), "_law_is_data", "_law_is_data", defArgs s_u_law_is_data, defBody s_u_law_is_data, defScope s_u_law_is_data, [], []⟩) rfl
    g_u_law_is_data := He.glo_ok X G (cd.fact 22 rfl)
    d_u_law_is_body := cd.def_ 23 (d := ⟨("_law_is_body", none), "_law_is_body", "_law_is_body", defArgs s_u_law_is_body, defBody s_u_law_is_body, defScope s_u_law_is_body, [], []⟩) rfl
    g_u_law_is_body := He.glo_ok X G (cd.fact 23 rfl)
    d_u_law_due := cd.def_ 24 (d := ⟨("_law_due", none), "_law_due", "_law_due", defArgs s_u_law_due, defBody s_u_law_due, defScope s_u_law_due, [], []⟩) rfl
    g_u_law_due := He.glo_ok X G (cd.fact 24 rfl)
    d_u_law_pack := cd.def_ 25 (d := ⟨("_law_pack", none), "_law_pack", "_law_pack", defArgs s_u_law_pack, defBody s_u_law_pack, defScope s_u_law_pack, [], []⟩) rfl
    g_u_law_pack := He.glo_ok X G (cd.fact 25 rfl)
    d_law := cd.def_ 26 (d := ⟨("law", none), "law", "law", defArgs s_law, defBody s_law, defScope s_law, [], []⟩) rfl
    g_law := He.glo_ok X G (cd.fact 26 rfl)
    g_CurveError := He.glo_ok X G (cd.fact 27 rfl)
    g_OutOfRange := He.glo_ok X G (cd.fact 28 rfl)
    g_Malformed := He.glo_ok X G (cd.fact 29 rfl)
    x_Malformed := (He.exc_ok (x := "Malformed") (cd.fact 30 rfl)).1
    k_Malformed := (He.exc_ok (x := "Malformed") (cd.fact 30 rfl)).2.1
    b_Malformed := (He.exc_ok (x := "Malformed") (cd.fact 30 rfl)).2.2.1
    t_Malformed := (He.exc_ok (x := "Malformed") (cd.fact 30 rfl)).2.2.2
    x_OutOfRange := (He.exc_ok (x := "OutOfRange") (cd.fact 31 rfl)).1
    k_OutOfRange := (He.exc_ok (x := "OutOfRange") (cd.fact 31 rfl)).2.1
    b_OutOfRange := (He.exc_ok (x := "OutOfRange") (cd.fact 31 rfl)).2.2.1
    t_OutOfRange := (He.exc_ok (x := "OutOfRange") (cd.fact 31 rfl)).2.2.2
    n_abs := He.free_ok X G (cd.fact 32 rfl)
    n_all := He.free_ok X G (cd.fact 33 rfl)
    n_bool := He.free_ok X G (cd.fact 34 rfl)
    n_int := He.free_ok X G (cd.fact 35 rfl)
    n_isinstance := He.free_ok X G (cd.fact 36 rfl)
    n_len := He.free_ok X G (cd.fact 37 rfl)
    n_list := He.free_ok X G (cd.fact 38 rfl)
    n_ord := He.free_ok X G (cd.fact 39 rfl)
    n_range := He.free_ok X G (cd.fact 40 rfl)
    n_str := He.free_ok X G (cd.fact 41 rfl)
    n_tuple := He.free_ok X G (cd.fact 42 rfl)
    n_zip := He.free_ok X G (cd.fact 43 rfl)
    c_LONGEST_DATA := He.int_ok X G (cd.fact 44 rfl)
    c_LONGEST_SIGNATURE := He.int_ok X G (cd.fact 45 rfl)
    c_LONGEST_TEXT := He.int_ok X G (cd.fact 46 rfl)
    c_PERCENT := He.int_ok X G (cd.fact 47 rfl)
    c_ADMIT := con_of X G (He.ba (c.more)).2 (List.mem_of_getElem? (i := 0) rfl)
    c_REPLACE := con_of X G (He.ba (c.more)).2 (List.mem_of_getElem? (i := 1) rfl)
    c_RIGHTS := con_of X G (He.ba (c.more)).2 (List.mem_of_getElem? (i := 2) rfl)
    c_STATE := con_of X G (He.ba (c.more)).2 (List.mem_of_getElem? (i := 3) rfl)
    c_WITHDRAW := con_of X G (He.ba (c.more)).2 (List.mem_of_getElem? (i := 4) rfl)
    cls := cls_of (He.ba (c.more)).1 }
end Mi
set_option maxHeartbeats 1000000
namespace Mi
open PySem PySem.Spec L2
/-! ### what follows, in plain mathematics -/
theorem need_bind {α β : Type} {p : Prop} (m : Res α) (f : α → Res β) : (Res.need p m).bind f = Res.need p (m.bind f) := by
  by_cases h : p
  · rw [Res.need_pos h, Res.need_pos h]
  · rw [Res.need_neg h, Res.need_neg h]; rfl
theorem cond_dec {α : Type} {p : Prop} [Decidable p] (a b : α) : cond (decide p) a b = if p then a else b := by
  by_cases h : p <;> simp [h]
theorem ibits_le {i : Int} {n : Nat} (h : Builtin.Int.intBits i ≤ n) : i.natAbs < 2 ^ n := by
  unfold Builtin.Int.intBits at h
  split at h
  · rename_i h0
    have : i = 0 := by simpa using h0
    subst this
    exact Nat.two_pow_pos n
  · rename_i h0
    have hne : i.natAbs ≠ 0 := by
      intro z
      apply h0
      have : i = 0 := Int.natAbs_eq_zero.mp z
      simp [this]
    have h1 : i.natAbs.log2 < n := by omega
    exact (Nat.log2_lt hne).mp h1
theorem le_ibits {i : Int} {n : Nat} (h : i.natAbs < 2 ^ n) : Builtin.Int.intBits i ≤ n := by
  unfold Builtin.Int.intBits
  split
  · exact Nat.zero_le _
  · rename_i h0
    have hne : i.natAbs ≠ 0 := by
      intro z
      apply h0
      have : i = 0 := Int.natAbs_eq_zero.mp z
      simp [this]
    have := (Nat.log2_lt hne).mpr h
    omega
theorem cmulx {i j : Int} {a b : Nat} (ha : i.natAbs < 2 ^ a) (hb : j.natAbs < 2 ^ b) (h : a + b ≤ 134217728) : CMulX i j := mulx_ok ha hb h
theorem pow_add_lt {x y a b : Nat} (ha : x < 2 ^ a) (hb : y < 2 ^ b) : x * y < 2 ^ (a + b) := by
  rw [Nat.pow_add]; exact Nat.mul_lt_mul'' ha hb
theorem idx_nat {α : Type} {xs : List α} {j : Nat} {v : α} (h : xs[j]? = some v) : idx xs (j : Int) = .ok v := by
  unfold idx; rw [atI_nat h]
theorem compL_map {α β : Type} {t : α → Res Bool} {e : α → Res β} {g : α → β} {xs : List α} (ht : ∀ x ∈ xs, t x = .ok true) (he : ∀ x ∈ xs, e x = .ok (g x)) : compL t e xs = .ok (xs.map g) := by
  induction xs with
  | nil => rfl
  | cons x r ih =>
    show (t x).bind _ = _
    rw [ht x List.mem_cons_self]
    show (e x).bind _ = _
    rw [he x List.mem_cons_self]
    show (compL t e r).bind _ = _
    rw [ih (fun y hy => ht y (List.mem_cons_of_mem _ hy)) fun y hy => he y (List.mem_cons_of_mem _ hy)]
    rfl
mutual
/-- no truth values within -/
def D.nob : D → Bool
  | .bl _ => false
  | .ty _ => false
  | .obj _ _ _ => false
  | .ro _ => false
  | .dct _ _ => false
  | .tup xs => nobL xs
  | .lst xs => nobL xs
  | _ => true
def nobL : List D → Bool
  | [] => true
  | x :: xs => D.nob x && nobL xs
end
mutual
theorem pyEq_iff : ∀ (x y : D), x.nob = true → y.nob = true → (PyData.eqv x.py y.py = true ↔ x = y)
  | .non, y, _, h => by cases y <;> simp_all [D.py, PyData.eqv, D.nob]
  | .int i, y, _, h => by cases y <;> simp_all [D.py, PyData.eqv, D.nob]
  | .str s, y, _, h => by cases y <;> simp_all [D.py, PyData.eqv, D.nob]
  | .bl b, y, h, _ => by cases h
  | .ty b, y, h, _ => by cases h
  | .obj a b c, y, h, _ => by cases h
  | .ro a, y, h, _ => by cases h
  | .dct a b, y, h, _ => by cases h
  | .tup xs, y, h1, h => by
    cases y with
    | tup ys =>
      have := pyEqL_iff xs ys h1 h
      simp only [D.py, PyData.eqv, D.tup.injEq]; exact this
    | bl b => cases h
    | ty b => cases h
    | obj a b c => cases h
    | ro a => cases h
    | dct a b => cases h
    | _ => simp [D.py, PyData.eqv]
  | .lst xs, y, h1, h => by
    cases y with
    | lst ys =>
      have := pyEqL_iff xs ys h1 h
      simp only [D.py, PyData.eqv, D.lst.injEq]; exact this
    | bl b => cases h
    | ty b => cases h
    | obj a b c => cases h
    | ro a => cases h
    | dct a b => cases h
    | _ => simp [D.py, PyData.eqv]
theorem pyEqL_iff : ∀ (xs ys : List D), nobL xs = true → nobL ys = true → (PyData.eqvAll (pyL xs) (pyL ys) = true ↔ xs = ys)
  | [], ys, _, h => by cases ys <;> simp [pyL, PyData.eqvAll]
  | x :: xs, ys, h1, h => by
    cases ys with
    | nil => simp [pyL, PyData.eqvAll]
    | cons y ys =>
      obtain ⟨a1, a2⟩ := Bool.and_eq_true_iff.mp (show (D.nob x && nobL xs) = true from h1)
      obtain ⟨b1, b2⟩ := Bool.and_eq_true_iff.mp (show (D.nob y && nobL ys) = true from h)
      simp only [pyL, PyData.eqvAll, Bool.and_eq_true, pyEq_iff x y a1 b1, pyEqL_iff xs ys a2 b2, List.cons.injEq]
end
theorem pyEq_dec {x y : D} (hx : x.nob = true) (hy : y.nob = true) : pyEq x y = true ↔ x = y := pyEq_iff x y hx hy
theorem pyEq_self {x : D} (hx : x.nob = true) : pyEq x x = true := (pyEq_dec hx hx).mpr rfl
theorem pyRange_nonneg {k n : Int} (h : k ∈ pyRange 0 n) : 0 ≤ k := by
  obtain ⟨i, _, rfl⟩ := List.mem_map.mp h
  omega
theorem compL_get {α β : Type} (f : α → Res β) {xs : List α} {ys : List β} (h : xs.length = ys.length) (he : ∀ i (h1 : i < xs.length) (h2 : i < ys.length), f xs[i] = .ok ys[i]) : compL (fun _ => .ok true) f xs = .ok ys := by
  induction xs generalizing ys with
  | nil => cases ys with
    | nil => rfl
    | cons y r => simp at h
  | cons x xs ih =>
    cases ys with
    | nil => simp at h
    | cons y ys =>
      show (f x).bind _ = _
      rw [show f x = .ok y from he 0 (by simp) (by simp)]
      show (compL (fun _ => .ok true) f xs).bind _ = _
      rw [ih (by simpa using h) fun i h1 h2 => he (i + 1) (by simp; omega) (by simp; omega)]
      rfl
end Mi
set_option maxHeartbeats 1000000
namespace Mi
/-! ### primes -/
def IsP (n : Nat) : Prop := 2 ≤ n ∧ ∀ d, d ∣ n → d = 1 ∨ d = n
def prodL (l : List Nat) : Nat := l.foldr (· * ·) 1
/-- the power's residue, as the kernel works it out -/
def pwm (n : Nat) : Nat → Nat → Nat → Nat → Nat
  | 0, _, _, acc => acc
  | f + 1, b, e, acc => pwm n f (b * b % n) (e / 2) (if e % 2 = 1 then acc * b % n else acc)
/-- one prime q of n - 1, by numbers -/
def pkOk (n a q f : Nat) : Bool := decide (q ∣ n - 1) && decide (n - 1 < 2 ^ f) && decide (pwm n f a (n - 1) 1 % n = 1) && decide (Nat.gcd (pwm n f a ((n - 1) / q) 1 % n - 1) n = 1) && decide (0 < pwm n f a ((n - 1) / q) 1 % n)
def noDiv (n : Nat) : Nat → Nat → Bool
  | 0, _ => true
  | f + 1, d => !decide (n % d = 0) && noDiv n f (d + 1)
end Mi
set_option maxHeartbeats 1000000
namespace Mi
/-! ### residues -/
theorem em_mul {p x y u v : Int} (h : x % p = u % p) (h2 : y % p = v % p) : x * y % p = u * v % p := by rw [Int.mul_emod, h, h2, ← Int.mul_emod]
theorem em_dvd {p x y : Int} (h : x % p = y % p) : p ∣ x - y := Int.dvd_of_emod_eq_zero (Int.emod_eq_emod_iff_emod_sub_eq_zero.mp h)
theorem em_of_dvd {p x y : Int} (h : p ∣ x - y) : x % p = y % p := Int.emod_eq_emod_iff_emod_sub_eq_zero.mpr (Int.emod_eq_zero_of_dvd h)
/-! ### a polynomial's roots -/
def evp : List Int → Int → Int
  | [], _ => 0
  | c :: cs, x => c + x * evp cs x
def dvp : List Int → Int → List Int
  | [], _ => []
  | [_], _ => []
  | _ :: d :: cs, r => evp (d :: cs) r :: dvp (d :: cs) r
end Mi
set_option maxHeartbeats 1000000
namespace Mi
/-! ### residues as a ring -/
def zr (p : Nat) (x y : Int) : Prop := x % p = y % p
def Zp (p : Nat) : Type := Quot (zr p)
def zm (p : Nat) (x : Int) : Zp p := Quot.mk _ x
theorem zr_iff {p : Nat} {x y : Int} : zr p x y ↔ (p : Int) ∣ x - y := ⟨fun h => em_dvd h, fun h => em_of_dvd h⟩
section
variable {p : Nat}
def zadd : Zp p → Zp p → Zp p := Quot.lift (fun x => Quot.lift (fun y => zm p (x + y)) fun a b h => Quot.sound (by
  rw [zr_iff] at h ⊢; rw [show x + a - (x + b) = a - b by omega]; exact h)) fun a b h => by
  funext y
  induction y using Quot.ind
  refine Quot.sound ?_
  rw [zr_iff] at h ⊢
  rename_i y
  rw [show a + y - (b + y) = a - b by omega]; exact h
def zmul : Zp p → Zp p → Zp p := Quot.lift (fun x => Quot.lift (fun y => zm p (x * y)) fun a b h => Quot.sound (em_mul rfl h)) fun a b h => by
  funext y
  induction y using Quot.ind
  exact Quot.sound (em_mul h rfl)
def zneg : Zp p → Zp p := Quot.lift (fun x => zm p (-x)) fun a b h => Quot.sound (by
  rw [zr_iff] at h ⊢
  rw [show -a - -b = -(a - b) by omega]; exact Int.dvd_neg.mpr h)
instance : Add (Zp p) := ⟨zadd⟩
instance : Mul (Zp p) := ⟨zmul⟩
instance : Neg (Zp p) := ⟨zneg⟩
instance : Sub (Zp p) := ⟨fun x y => x + -y⟩
instance : NatCast (Zp p) := ⟨fun n => zm p (n : Int)⟩
instance : IntCast (Zp p) := ⟨fun n => zm p n⟩
instance (n : Nat) : OfNat (Zp p) n := ⟨zm p (n : Int)⟩
def zpow (x : Zp p) : Nat → Zp p
  | 0 => 1
  | n + 1 => zpow x n * x
instance : HPow (Zp p) Nat (Zp p) := ⟨zpow⟩
instance : SMul Nat (Zp p) := ⟨fun n x => (n : Zp p) * x⟩
instance : SMul Int (Zp p) := ⟨fun n x => (n : Zp p) * x⟩
instance : Lean.Grind.CommRing (Zp p) where
  add_zero := fun a => Quot.inductionOn a (fun x => congrArg (zm p) (Int.add_zero x))
  add_comm := fun a b => Quot.inductionOn a (fun x => Quot.inductionOn b (fun y => congrArg (zm p) (Int.add_comm x y)))
  add_assoc := fun a b c => Quot.inductionOn a (fun x => Quot.inductionOn b (fun y => Quot.inductionOn c (fun z => congrArg (zm p) (Int.add_assoc x y z))))
  mul_assoc := fun a b c => Quot.inductionOn a (fun x => Quot.inductionOn b (fun y => Quot.inductionOn c (fun z => congrArg (zm p) (Int.mul_assoc x y z))))
  mul_one := fun a => Quot.inductionOn a (fun x => congrArg (zm p) (Int.mul_one x))
  one_mul := fun a => Quot.inductionOn a (fun x => congrArg (zm p) (Int.one_mul x))
  left_distrib := fun a b c => Quot.inductionOn a (fun x => Quot.inductionOn b (fun y => Quot.inductionOn c (fun z => congrArg (zm p) (Int.mul_add x y z))))
  right_distrib := fun a b c => Quot.inductionOn a (fun x => Quot.inductionOn b (fun y => Quot.inductionOn c (fun z => congrArg (zm p) (Int.add_mul x y z))))
  zero_mul := fun a => Quot.inductionOn a (fun x => congrArg (zm p) (Int.zero_mul x))
  mul_zero := fun a => Quot.inductionOn a (fun x => congrArg (zm p) (Int.mul_zero x))
  pow_zero := fun a => rfl
  pow_succ := fun a n => rfl
  ofNat_succ := fun n => rfl
  ofNat_eq_natCast := fun n => rfl
  nsmul_eq_natCast_mul := fun n a => rfl
  neg_add_cancel := fun a => Quot.inductionOn a (fun x => congrArg (zm p) (Int.add_left_neg x))
  sub_eq_add_neg := fun a b => rfl
  neg_zsmul := fun i a => Quot.inductionOn a (fun x => congrArg (zm p) (Int.neg_mul i x))
  zsmul_natCast_eq_nsmul := fun n a => rfl
  intCast_ofNat := fun n => rfl
  intCast_neg := fun i => rfl
  mul_comm := fun a b => Quot.inductionOn a (fun x => Quot.inductionOn b (fun y => congrArg (zm p) (Int.mul_comm x y)))
end
end Mi
namespace Mi
end Mi
set_option maxHeartbeats 1000000
namespace Mi
open PySem PySem.Spec L2
/-! ### sizes, found by themselves -/
class Bd (x : Int) (n : outParam Nat) : Prop where
  lt : x.natAbs < 2 ^ n
class Pb (p : Nat) : Prop where
  pos : 0 < p
  lt : p < 2 ^ 256
theorem Bd.up {x : Int} {m n : Nat} (h : x.natAbs < 2 ^ m) (e : m ≤ n) : x.natAbs < 2 ^ n := Nat.lt_of_lt_of_le h (Nat.pow_le_pow_right (by decide) e)
instance bd_mul {x y : Int} {a b : Nat} [h1 : Bd x a] [h2 : Bd y b] : Bd (x * y) (a + b) := ⟨by rw [Int.natAbs_mul]; exact pow_add_lt h1.lt h2.lt⟩
theorem two_sum {u v a b : Nat} (h1 : u < 2 ^ a) (h2 : v < 2 ^ b) : u + v < 2 ^ (max a b + 1) := by
  have := Nat.lt_of_lt_of_le h1 (Nat.pow_le_pow_right (show 0 < 2 by decide) (Nat.le_max_left a b))
  have := Nat.lt_of_lt_of_le h2 (Nat.pow_le_pow_right (show 0 < 2 by decide) (Nat.le_max_right a b))
  rw [Nat.pow_succ]; omega
instance bd_add {x y : Int} {a b : Nat} [h1 : Bd x a] [h2 : Bd y b] : Bd (x + y) (max a b + 1) := ⟨Nat.lt_of_le_of_lt (Int.natAbs_add_le x y) (two_sum h1.lt h2.lt)⟩
instance bd_sub {x y : Int} {a b : Nat} [h1 : Bd x a] [h2 : Bd y b] : Bd (x - y) (max a b + 1) := ⟨Nat.lt_of_le_of_lt (Int.natAbs_sub_le x y) (two_sum h1.lt h2.lt)⟩
instance bd_neg {x : Int} {a : Nat} [h1 : Bd x a] : Bd (-x) a := ⟨by rw [Int.natAbs_neg]; exact h1.lt⟩
instance bd_pow {x : Int} {a k : Nat} [h1 : Bd x a] : Bd (x ^ k) (a * k + 1) := ⟨by
  rw [Int.natAbs_pow]
  have : x.natAbs ^ k ≤ (2 ^ a) ^ k := Nat.pow_le_pow_left (Nat.le_of_lt h1.lt) k
  rw [← Nat.pow_mul] at this
  have : 2 ^ (a * k) < 2 ^ (a * k + 1) := Nat.pow_lt_pow_right (by decide) (by omega)
  omega⟩
instance : Bd (0 : Int) 8 := ⟨by decide⟩
instance : Bd (1 : Int) 8 := ⟨by decide⟩
instance : Bd (2 : Int) 8 := ⟨by decide⟩
instance : Bd (3 : Int) 8 := ⟨by decide⟩
instance : Bd (4 : Int) 8 := ⟨by decide⟩
instance : Bd (5 : Int) 8 := ⟨by decide⟩
instance : Bd (6 : Int) 8 := ⟨by decide⟩
instance : Bd (7 : Int) 8 := ⟨by decide⟩
instance : Bd (8 : Int) 8 := ⟨by decide⟩
instance : Bd (9 : Int) 8 := ⟨by decide⟩
instance : Bd (12 : Int) 8 := ⟨by decide⟩
instance : Bd (13 : Int) 8 := ⟨by decide⟩
instance : Bd (16 : Int) 8 := ⟨by decide⟩
instance : Bd (27 : Int) 8 := ⟨by decide⟩
instance : Bd (2147483648 : Int) 70 := ⟨by decide +kernel⟩
instance : Bd (4294967296 : Int) 70 := ⟨by decide +kernel⟩
instance : Bd (2305843009213693952 : Int) 70 := ⟨by decide +kernel⟩
instance : Bd (9223372036854775808 : Int) 70 := ⟨by decide +kernel⟩
instance : Bd (18446744073709551616 : Int) 70 := ⟨by decide +kernel⟩
instance : Bd (6277101735386680763835789423207666416102355444464034512896 : Int) 200 := ⟨by decide +kernel⟩
instance bd_p {p : Nat} [h : Pb p] : Bd (p : Int) 256 := ⟨by rw [Int.natAbs_natCast]; exact h.lt⟩
instance bd_mod {p : Nat} {x : Int} [h : Pb p] : Bd (x % (p : Int)) 256 := ⟨by
  have := h.pos; have := h.lt
  have := Int.emod_nonneg x (show (p : Int) ≠ 0 by omega)
  have := Int.emod_lt_of_pos x (show (0 : Int) < (p : Int) by omega)
  omega⟩
end Mi
namespace Mi
open PySem PySem.Spec L2
/-! ### the law's own helpers -/
theorem cell_ok (ns : Ro Int) (k : Nat) : m_u_law_cell ns (k : Int) = .ok (ns.xs.getD k 0) := by
  unfold m_u_law_cell
  simp only [Res.bind_ok, cond_dec]
  by_cases h : (k : Int) < (ns.xs.length : Int)
  · rw [if_pos h]
    have h' : k < ns.xs.length := by omega
    rw [idx_nat (List.getElem?_eq_getElem h')]
    simp [Res.bind_ok, h']
  · rw [if_neg h]
    have h' : ¬ k < ns.xs.length := by omega
    simp [h']
theorem cell_ex (ns : Ro Int) {k : Int} (hk : 0 ≤ k) : ∃ c, m_u_law_cell ns k = .ok c := by
  obtain ⟨j, rfl⟩ := Int.eq_ofNat_of_zero_le hk
  exact ⟨_, cell_ok ns j⟩


/-! ### bytes -/
def dg : Nat → Int → List Int
  | 0, _ => []
  | s + 1, n => n % 256 :: dg s (n / 256)
abbrev fb (a d : Int) : Int := a * 256 + d
def Byt (ds : List Int) : Prop := ∀ d ∈ ds, 0 ≤ d ∧ d ≤ 255
theorem dg_len : ∀ (s : Nat) (n : Int), (dg s n).length = s
  | 0, _ => rfl
  | s + 1, n => by rw [dg, List.length_cons, dg_len]
theorem dg_get : ∀ (s : Nat) (n : Int) (i : Nat) (h : i < (dg s n).length), (dg s n)[i] = n / 256 ^ i % 256
  | 0, _, i, h => by cases h
  | s + 1, n, 0, h => by simp [dg]
  | s + 1, n, i + 1, h => by
    have h' : i < (dg s (n / 256)).length := by
      rw [dg, List.length_cons] at h; omega
    show (dg s (n / 256))[i] = _
    rw [dg_get s (n / 256) i h', Int.ediv_ediv_of_nonneg (by decide), Int.pow_succ, Int.mul_comm]
theorem p256 (k : Nat) : (2 : Int) ^ (8 * k) = 256 ^ k := by rw [Int.pow_mul]; rfl
theorem mask8 (x : Int) : Builtin.bitAnd x 255 = x % 256 := PySem.W.kbt_mask x 8
theorem by_map : ∀ xs : List Int, (toD xs : D).asList = .ok (xs.map D.int) := fun xs => rfl
theorem bits_iff {n : Int} {s : Nat} (h0 : 0 ≤ n) : ((8 * (s : Int) < (Builtin.Int.intBits n : Int)) ↔ ¬ n < 256 ^ s) := by
  rw [← p256]
  constructor
  · intro h h1
    have e : n.natAbs < 2 ^ (8 * s) := by
      have : ((n.natAbs : Nat) : Int) < ((2 ^ (8 * s) : Nat) : Int) := by rw [PySem.W.kbt_cast]; omega
      omega
    have := le_ibits e
    omega
  · intro h
    refine Int.lt_of_not_ge fun h1 => h ?_
    have e := ibits_le (i := n) (n := 8 * s) (by omega)
    have : ((n.natAbs : Nat) : Int) < ((2 ^ (8 * s) : Nat) : Int) := by omega
    rw [PySem.W.kbt_cast] at this; omega
theorem little_ok {n : Int} {s : Nat} (hs : s ≤ 300) (h0 : 0 ≤ n) (h1 : n < 256 ^ s) : m_to_little n (s : Int) = .ok (dg s n) := by
  unfold m_to_little
  have hb : ¬ 8 * (s : Int) < (Builtin.Int.intBits n : Int) := fun h => bits_iff h0 |>.mp h h1
  have hr : okRange (s : Int) := ⟨by omega, by omega⟩
  have hl : (pyRange 0 (s : Int)).length = s := by rw [pyRange_len]; omega
  simp only [Res.bind_ok, need_bind]
  rw [decide_eq_false (show ¬ n < 0 by omega), decide_eq_false hb]
  simp only [cond_false, Res.bind_ok, Res.need_pos hr]
  rw [Res.need_pos (show (pyRange 0 (s : Int)).length ≤ 16777216 by omega)]
  refine compL_get _ (by rw [hl, dg_len]) fun i a b => ?_
  have e : (pyRange 0 (s : Int))[i] = (i : Int) := by simp [pyRange]
  rw [e, Res.need_pos (by omega), dg_get, mask8, show (8 * (i : Int)).toNat = 8 * i by omega, p256]
theorem tobig_ok {n : Int} {s : Nat} (hs : s ≤ 300) (h0 : 0 ≤ n) (h1 : n < 256 ^ s) : m_to_big n (s : Int) = .ok (dg s n).reverse := by
  unfold m_to_big
  rw [little_ok hs h0 h1]; rfl
theorem byt_app {xs ys : List Int} (h : Byt xs) (k : Byt ys) : Byt (xs ++ ys) := fun d hd => by
  rcases List.mem_append.mp hd with hd | hd
  · exact h d hd
  · exact k d hd

/-! ### drawn bytes -/
theorem twice_ok (c : Int) {k : Int} : ∃ x, m_u_law_twice c k = .ok x ∧ 0 ≤ x := by
  have b : ∀ x : Int, 0 ≤ x → x < 2147483648 → CMulX x x := fun x h0 h1 => cmulx (a := 32) (b := 32) (by omega) (by omega) (by decide)
  unfold m_u_law_twice
  simp only [Res.bind_ok]
  have a0 := Int.emod_nonneg (c * 48271 + k * 69621 + 7) (show (2147483647 : Int) ≠ 0 by decide)
  have a1 := Int.emod_lt_of_pos (c * 48271 + k * 69621 + 7) (show (0 : Int) < 2147483647 by decide)
  generalize (c * 48271 + k * 69621 + 7) % 2147483647 = x at *
  rw [Res.need_pos (b x a0 (by omega))]
  simp only [Res.bind_ok]
  have a0 := Int.emod_nonneg (x * x + k * 40692 + 3) (show (2147483629 : Int) ≠ 0 by decide)
  have a1 := Int.emod_lt_of_pos (x * x + k * 40692 + 3) (show (0 : Int) < 2147483629 by decide)
  generalize (x * x + k * 40692 + 3) % 2147483629 = y at *
  rw [Res.need_pos (b y a0 (by omega))]
  simp only [Res.bind_ok]
  refine ⟨_, rfl, ?_⟩
  have a0 := Int.emod_nonneg (y * y + k * 30269 + 5) (show (2147483587 : Int) ≠ 0 by decide)
  omega
/-! ### codes of texts -/
abbrev iw (l : List Nat) : List Int := l.map fun (n : Nat) => (n : Int)
def cds (x : Str) : List Nat := x.cps.toList
def okc (c : Nat) : Bool := decide (32 ≤ c) && (decide (c ≤ 126) && !decide (c = 37))
theorem ords_of : ∀ l : List Nat, compL (fun (_ : Str) => Res.ok true) (fun (x : Str) => Res.need (x.length = 1) (Res.ok ((x.cps.getD 0 0 : Nat) : Int))) (l.map fun c => (⟨#[c]⟩ : Str)) = .ok (iw l)
  | [] => rfl
  | c :: r => by
    rw [List.map_cons]
    unfold compL
    rw [ords_of r, Res.need_pos (show (⟨#[c]⟩ : Str).length = 1 from rfl)]; rfl
theorem chars_codes (x : Str) : compL (fun (_ : Str) => Res.ok true) (fun (x : Str) => Res.need (x.length = 1) (Res.ok ((x.cps.getD 0 0 : Nat) : Int))) (chars x) = .ok (iw (cds x)) := ords_of _
theorem chars_ln (x : Str) : (chars x).length = (cds x).length := by rw [chars_len]; rfl
theorem ascii_l1 (kk : Unit → Res (List Int)) : ∀ l : List Nat, (l.all okc = true → m_ascii_codes_l1 kk (iw l) () = kk ()) ∧ (l.all okc = false → m_ascii_codes_l1 kk (iw l) () = .exc "Malformed")
  | [] => ⟨fun _ => rfl, fun h => by cases h⟩
  | c :: r => by
    have e : m_ascii_codes_l1 kk (iw (c :: r)) () = if okc c = true then m_ascii_codes_l1 kk (iw r) () else .exc "Malformed" := by
      show m_ascii_codes_l1 kk ((c : Int) :: iw r) () = _
      rw [m_ascii_codes_l1]
      unfold okc
      dsimp only
      by_cases h1 : c < 32
      · rw [decide_eq_true (show (c : Int) < 32 by omega), decide_eq_false (show ¬ 32 ≤ c by omega)]; rfl
      · rw [decide_eq_false (show ¬ (c : Int) < 32 by omega), decide_eq_true (show 32 ≤ c by omega)]
        by_cases h2 : 126 < c
        · rw [decide_eq_true (show (126 : Int) < c by omega), decide_eq_false (show ¬ c ≤ 126 by omega)]; rfl
        · rw [decide_eq_false (show ¬ (126 : Int) < c by omega), decide_eq_true (show c ≤ 126 by omega)]
          by_cases h3 : c = 37
          · subst h3; rfl
          · rw [decide_eq_false (show ¬ (c : Int) = 37 by omega), decide_eq_false h3]; rfl
    have ih := ascii_l1 kk r
    rw [List.all_cons, e]
    cases h : okc c with
    | true => exact ⟨fun q => by rw [if_pos rfl]; exact ih.1 q, fun q => by rw [if_pos rfl]; exact ih.2 q⟩
    | false => exact ⟨fun q => (by rw [Bool.false_and] at q; cases q), fun _ => by rw [if_neg (by decide)]⟩
theorem ascii_ok {x : Str} (h : (cds x).all okc = true) (hl : (cds x).length ≤ 16777216) : m_ascii_codes x = .ok (iw (cds x)) := by
  unfold m_ascii_codes
  simp only [Res.bind_ok]
  rw [Res.need_pos (by rw [chars_ln]; exact hl), chars_codes, Res.bind_ok, (ascii_l1 _ _).1 h]
  rfl
theorem ascii_bad {x : Str} (h : (cds x).all okc = false) (hl : (cds x).length ≤ 16777216) : m_ascii_codes x = .exc "Malformed" := by
  unfold m_ascii_codes
  simp only [Res.bind_ok]
  rw [Res.need_pos (by rw [chars_ln]; exact hl), chars_codes, Res.bind_ok, (ascii_l1 _ _).2 h]

theorem islist_ok (xs : List Int) : m_u_law_is_list (toD xs) xs = .ok true := by
  have q : ∀ (k : Unit → Res Bool), k () = .ok true → ∀ ys : List Int, m_u_law_is_list_l2 k (List.zipWith T2.mk (ys.map D.int) ys) () = .ok true := by
    intro k hk ys
    induction ys with
    | nil => rw [List.map_nil, List.zipWith_nil_left, m_u_law_is_list_l2]; exact hk
    | cons y r ih =>
      rw [List.map_cons, List.zipWith_cons_cons, m_u_law_is_list_l2]
      have p1 : (toD (D.int y)).plain = true := rfl
      have h1 : isI "int" (toD (D.int y)) = true := rfl
      have h2 : isI "bool" (toD (D.int y)) = false := rfl
      have ok : (toD (D.int y)).okq = true ∧ (toD y).okq = true := ⟨rfl, rfl⟩
      have e : pyEq (toD (D.int y)) (toD y) = true := pyEq_self (x := D.int y) rfl
      unfold m_u_law_integer
      simp only [Res.need_pos p1, Res.bind_ok, h1, h2, cond_true, Bool.not_false, Bool.not_true, cond_false, Res.need_pos ok, e]
      exact ih
  have p1 : (toD (toD xs : D)).plain = true := rfl
  have h1 : isI "list" (toD (toD xs : D)) = true := rfl
  have l1 : D.lenR (toD xs) = .ok (xs.length : Int) := by
    show Res.ok (((xs.map D.int).length : Nat) : Int) = _
    rw [List.length_map]
  unfold m_u_law_is_list
  simp only [Res.need_pos p1, Res.bind_ok, h1, Bool.not_true, cond_false, l1, decide_true, by_map, q m_u_law_is_list_k3 rfl xs]

/-! ### k65: values near an entry -/
def Pn : Nat → D → Prop
  | 0, d => d.plain = true ∧ ∀ s, d = .str s → (cds s).length ≤ 1000
  | k + 1, d => d.plain = true ∧ (∀ s, d = .str s → (cds s).length ≤ 1000) ∧ ∀ ds, d = .tup ds → ds.length ≤ 2000 ∧ ∀ x ∈ ds, Pn k x
theorem pn_plain {k : Nat} {d : D} (h : Pn k d) : d.plain = true := by cases k <;> exact h.1
theorem pn_str {k : Nat} {s : Str} (h : Pn k (.str s)) : (cds s).length ≤ 1000 := by
  cases k with
  | zero => exact h.2 s rfl
  | succ k => exact h.2.1 s rfl
theorem pn_flat {d : D} (k : Nat) (h : d.plain = true) (hs : ∀ s, d ≠ .str s) (ht : ∀ ds, d ≠ .tup ds) : Pn k d := by
  cases k with
  | zero => exact ⟨h, fun s e => absurd e (hs s)⟩
  | succ k => exact ⟨h, fun s e => absurd e (hs s), fun ds e => absurd e (ht ds)⟩
theorem pn_mkstr {s : Str} (k : Nat) (h : (cds s).length ≤ 1000) : Pn k (.str s) := by
  cases k with
  | zero => exact ⟨rfl, fun t e => by cases e; exact h⟩
  | succ k => exact ⟨rfl, fun t e => (by cases e; exact h), fun ds e => by cases e⟩
theorem pn_tup {k : Nat} {ds : List D} (h : ds.length ≤ 2000) (a : ∀ x ∈ ds, Pn k x) : Pn (k + 1) (.tup ds) := ⟨rfl, fun s e => (by cases e), fun xs e => by cases e; exact ⟨h, a⟩⟩
theorem pn_of : ∀ {k : Nat} {d : D}, Pn (k + 1) d → Pn k d
  | 0, d, h => ⟨h.1, h.2.1⟩
  | k + 1, d, h => ⟨h.1, h.2.1, fun ds e => ⟨(h.2.2 ds e).1, fun x hx => pn_of ((h.2.2 ds e).2 x hx)⟩⟩
def isText : D → Bool
  | .str s => decide ((cds s).length ≤ 600) && (cds s).all okc
  | _ => false
def isByte : D → Bool
  | .int i => decide (0 ≤ i) && decide (i ≤ 255)
  | _ => false
def isData (m : Int) : D → Bool
  | .tup ds => decide ((ds.length : Int) ≤ m) && ds.all isByte
  | _ => false
theorem not_str {d : D} (h : d.plain = true) (hs : ∀ s, d ≠ .str s) : isI "str" (toD d) = false ∧ isText d = false := by
  cases d with
  | str s => exact absurd rfl (hs s)
  | non => exact ⟨rfl, rfl⟩
  | bl b => exact ⟨rfl, rfl⟩
  | int i => exact ⟨rfl, rfl⟩
  | ty n => exact ⟨rfl, rfl⟩
  | tup x => exact ⟨rfl, rfl⟩
  | lst x => exact ⟨rfl, rfl⟩
  | obj a b c => cases h
  | ro x => exact ⟨rfl, rfl⟩
  | dct a b => exact ⟨rfl, rfl⟩
theorem not_tup {d : D} (m : Int) (hs : ∀ ds, d ≠ .tup ds) : isI "tuple" (toD d) = false ∧ isData m d = false := by
  cases d with
  | tup s => exact absurd rfl (hs s)
  | non => exact ⟨rfl, rfl⟩
  | bl b => exact ⟨rfl, rfl⟩
  | int i => exact ⟨rfl, rfl⟩
  | ty n => exact ⟨rfl, rfl⟩
  | str x => exact ⟨rfl, rfl⟩
  | lst x => exact ⟨rfl, rfl⟩
  | obj a b c => exact ⟨rfl, rfl⟩
  | ro x => exact ⟨rfl, rfl⟩
  | dct a b => exact ⟨rfl, rfl⟩
theorem one_lt (a b : Nat) : decide ([a] < [b]) = decide (a < b) := by
  rw [decide_eq_decide]
  constructor
  · intro h
    rcases List.cons_lt_cons_iff.mp h with h | ⟨_, h⟩
    · exact h
    · cases h
  · exact fun h => List.cons_lt_cons_iff.mpr (.inl h)
theorem lt_ok : ∀ l : List Nat, m_u_law_is_text_l2 m_u_law_is_text_k3 (l.map fun c => (⟨#[c]⟩ : Str)) () = .ok (l.all okc)
  | [] => rfl
  | c :: r => by
    rw [List.map_cons, m_u_law_is_text_l2, List.all_cons]
    dsimp only
    have s1 : decide ((Str.cps (⟨#[c]⟩ : Str)).toList < (Str.cps (" " : Str)).toList) = decide (c < 32) := one_lt c 32
    have s2 : decide ((Str.cps ("~" : Str)).toList < (Str.cps (⟨#[c]⟩ : Str)).toList) = decide (126 < c) := one_lt 126 c
    have s3 : (⟨#[c]⟩ : Str).length = 1 := rfl
    have s4 : (Str.cps (⟨#[c]⟩ : Str)).getD 0 0 = c := rfl
    rw [s1, s2, Res.need_pos s3, s4, lt_ok r]
    unfold okc
    by_cases h1 : c < 32
    · rw [decide_eq_true h1, decide_eq_false (show ¬ 32 ≤ c by omega)]; rfl
    · rw [decide_eq_false h1, decide_eq_true (show 32 ≤ c by omega)]
      by_cases h2 : 126 < c
      · rw [decide_eq_true h2, decide_eq_false (show ¬ c ≤ 126 by omega)]; rfl
      · rw [decide_eq_false h2, decide_eq_true (show c ≤ 126 by omega)]
        by_cases h3 : c = 37
        · subst h3; rfl
        · rw [decide_eq_false h3]
          simp only [Bool.not_false, cond_true, Res.bind_ok, Bool.not_true, cond_false]
          rw [decide_eq_false (show ¬ (c : Int) = 37 by omega)]
          rfl
theorem slen (s : Str) : s.length = (cds s).length := rfl
theorem text_ok {k : Nat} {d : D} (h : Pn k d) : m_u_is_text d = .ok (isText d) ∧ m_u_law_is_text d = .ok (isText d) := by
  have pl := pn_plain h
  by_cases q : ∃ s, d = .str s
  · obtain ⟨s, rfl⟩ := q
    have l := pn_str h
    have il : isI "str" (toD (D.str s)) = true := rfl
    have as : D.asStr (.str s) = .ok s := rfl
    have n1 : s.length ≤ 16777216 := by rw [slen]; omega
    unfold m_u_is_text m_u_law_is_text
    rw [Res.need_pos (show (toD (D.str s)).plain = true from rfl), il]
    simp only [Res.bind_ok, as, Res.need_pos n1, Bool.not_true, cond_false]
    show _ = Res.ok (decide ((cds s).length ≤ 600) && (cds s).all okc) ∧ _ = Res.ok (decide ((cds s).length ≤ 600) && (cds s).all okc)
    rw [slen]
    by_cases c : (cds s).length ≤ 600
    · rw [decide_eq_false (show ¬ (600 : Int) < ((cds s).length : Int) by omega), cond_false, cond_false, decide_eq_true c, Bool.true_and]
      refine ⟨?_, lt_ok (cds s)⟩
      cases e : (cds s).all okc with
      | true => rw [ascii_ok e (by omega)]; rfl
      | false => rw [ascii_bad e (by omega)]; rfl
    · rw [decide_eq_true (show (600 : Int) < ((cds s).length : Int) by omega), decide_eq_false c]
      exact ⟨rfl, rfl⟩
  · have q : ∀ s, d ≠ .str s := fun s e => q ⟨s, e⟩
    obtain ⟨a, b⟩ := not_str pl q
    unfold m_u_is_text m_u_law_is_text
    rw [Res.need_pos (show (toD d).plain = true from pl), a, b]
    exact ⟨rfl, rfl⟩
theorem whole_ok {d : D} (h : d.plain = true) : m_is_whole d = .ok (isI "int" (toD d) && !isI "bool" (toD d)) ∧ m_u_law_integer d = .ok (isI "int" (toD d) && !isI "bool" (toD d)) := by
  have pl : (toD d).plain = true := h
  unfold m_is_whole m_u_law_integer
  rw [Res.need_pos pl, Res.need_pos pl]
  simp only [Res.bind_ok]
  cases isI "int" (toD d) <;> exact ⟨rfl, rfl⟩
theorem byte_in {d : D} (h : d.plain = true) : ((m_is_whole d).noexc).bind (fun b10 => cond b10 ((((Res.ok d)).bind D.asInt).bind fun (t9 : Int) => cond (decide ((0 : Int) ≤ t9)) (Res.ok (decide (t9 ≤ (255 : Int)))) (Res.ok false)) (Res.ok false)) = .ok (isByte d) := by
  rw [(whole_ok h).1]
  cases d with
  | int i =>
    show cond (decide ((0 : Int) ≤ i)) (Res.ok (decide (i ≤ (255 : Int)))) (Res.ok false) = Res.ok (decide (0 ≤ i) && decide (i ≤ 255))
    cases decide ((0 : Int) ≤ i) <;> rfl
  | obj a b c => cases h
  | ty n => cases h
  | ro x => cases h
  | _ => rfl
theorem byte_law {d : D} (h : d.plain = true) : (((m_u_law_integer d).bind fun (t225 : Bool) => Res.ok (!t225)).bind fun b229 => cond b229 (Res.ok true) (((((Res.ok d)).bind D.asInt).bind fun (t226 : Int) => Res.ok (decide (t226 < (0 : Int)))).bind fun b228 => cond b228 (Res.ok true) ((((Res.ok d)).bind D.asInt).bind fun (t227 : Int) => Res.ok (decide ((255 : Int) < t227))))) = .ok (!isByte d) := by
  rw [(whole_ok h).2]
  cases d with
  | int i =>
    show (Res.ok (decide (i < (0 : Int)))).bind (fun b228 => cond b228 (Res.ok true) (Res.ok (decide ((255 : Int) < i)))) = Res.ok (!(decide (0 ≤ i) && decide (i ≤ 255)))
    rw [Res.bind_ok]
    by_cases a : i < 0
    · rw [decide_eq_true a, decide_eq_false (show ¬ 0 ≤ i by omega)]; rfl
    · rw [decide_eq_false a, decide_eq_true (show 0 ≤ i by omega)]
      by_cases b : (255 : Int) < i
      · rw [decide_eq_true b, decide_eq_false (show ¬ i ≤ 255 by omega)]; rfl
      · rw [decide_eq_false b, decide_eq_true (show i ≤ 255 by omega)]; rfl
  | obj a b c => cases h
  | ty n => cases h
  | ro x => cases h
  | _ => rfl
theorem ld_ok : ∀ ds : List D, (∀ x ∈ ds, x.plain = true) → m_u_law_is_data_l2 m_u_law_is_data_k3 ds () = .ok (ds.all isByte)
  | [], _ => rfl
  | x :: r, h => by
    rw [m_u_law_is_data_l2, List.all_cons]
    dsimp only
    have b := byte_law (h x List.mem_cons_self)
    simp only [Res.bind_ok] at b ⊢
    rw [b, ld_ok r fun z hz => h z (List.mem_cons_of_mem _ hz), Res.bind_ok]
    cases isByte x <;> rfl
theorem all_ok {xs : List D} (h : ∀ x ∈ xs, x.plain = true) (hl : xs.length ≤ 16777216) : m_is_bytes (.lst xs) = .ok (xs.all isByte) := by
  unfold m_is_bytes
  rw [Res.need_pos (by rfl), Res.bind_ok, show isI "list" (toD (D.lst xs)) = true from rfl, cond_true, Res.bind_ok, show D.asList (.lst xs) = .ok xs from rfl, Res.bind_ok, Res.need_pos hl]
  rw [compL_map (g := isByte) (fun _ _ => rfl) fun x hx => byte_in (h x hx)]
  simp only [Res.bind_ok]
  rw [List.all_map]; rfl
theorem data_ok {k : Nat} {d : D} (h : Pn (k + 1) d) (m : Int) : m_u_is_byte_tuple d m = .ok (isData m d) ∧ m_u_law_is_data d m = .ok (isData m d) := by
  have pl := pn_plain h
  by_cases q : ∃ ds, d = .tup ds
  · obtain ⟨ds, rfl⟩ := q
    obtain ⟨l, a⟩ := h.2.2 ds rfl
    have pls : ∀ x ∈ ds, x.plain = true := fun x hx => pn_plain (a x hx)
    unfold m_u_is_byte_tuple m_u_law_is_data
    rw [Res.need_pos (by rfl), show isI "tuple" (toD (D.tup ds)) = true from rfl]
    have len : D.lenR (.tup ds) = .ok (ds.length : Int) := rfl
    have at_ : D.asTu (.tup ds) = .ok ⟨ds⟩ := rfl
    simp only [Res.bind_ok, len, at_, Bool.not_true, cond_false, cond_true]
    show _ = Res.ok (decide ((ds.length : Int) ≤ m) && ds.all isByte) ∧ _ = Res.ok (decide ((ds.length : Int) ≤ m) && ds.all isByte)
    rw [ld_ok ds pls]
    have e : (toD ds : D) = .lst ds := by
      show D.lst (ds.map fun x => x) = _
      rw [List.map_id']
    rw [e, all_ok pls (by omega)]
    by_cases c : (ds.length : Int) ≤ m
    · rw [decide_eq_true c, decide_eq_false (show ¬ m < (ds.length : Int) by omega)]; exact ⟨rfl, rfl⟩
    · rw [decide_eq_false c, decide_eq_true (show m < (ds.length : Int) by omega)]; exact ⟨rfl, rfl⟩
  · have q : ∀ s, d ≠ .tup s := fun s e => q ⟨s, e⟩
    obtain ⟨a, b⟩ := not_tup m q
    unfold m_u_is_byte_tuple m_u_law_is_data
    rw [Res.need_pos (show (toD d).plain = true from pl), a, b]
    exact ⟨rfl, rfl⟩

def isStr : D → Bool
  | .str _ => true
  | _ => false
def inRights : D → Bool
  | .str s => decide (s ∈ (["", "a", "s", "w", "as", "aw", "sw", "asw"] : List Str))
  | _ => false
def entBody : Nat → List D → Bool
  | 0, [x] => isData 1024 x
  | 1, [x, y] => isText x && inRights y
  | 2, [x, y] => isText x && isData 256 y
  | 3, [x] => isText x
  | _, _ => false
def kinds : List Str := ["state", "admit", "replace", "withdraw"]
theorem i0 {x : D} {r : List D} : idx (x :: r) (0 : Int) = .ok x := idx_nat (j := 0) rfl
theorem i1 {x y : D} {r : List D} : idx (x :: y :: r) (1 : Int) = .ok y := idx_nat (j := 1) rfl
theorem str_in {y : D} (h : y.plain = true) : (Res.need ((toD y).plain = true) (Res.ok (isI "str" (toD y)))) = .ok (isStr y) := by
  rw [Res.need_pos (show (toD y).plain = true from h)]
  cases y <;> first | rfl | cases h
theorem rights_in {y : D} (h : isStr y = true) : ((D.asStr y).bind fun (t : Str) => Res.ok (decide (t ∈ (["", "a", "s", "w", "as", "aw", "sw", "asw"] : List Str)))) = .ok (inRights y) := by
  cases y <;> first | rfl | cases h
theorem rights_no {y : D} (h : isStr y = false) : inRights y = false := by
  cases y <;> first | rfl | cases h
theorem body_ok {ds : List D} (h : ∀ x ∈ ds, Pn 1 x) (kind : Str) : m_u_is_body kind (.tup ds) = .ok (match sfind kinds kind with | some i => entBody i ds | none => false) := by
  have len : D.lenR (.tup ds) = .ok (ds.length : Int) := rfl
  have at_ : D.asTu (.tup ds) = .ok ⟨ds⟩ := rfl
  have rg : ∀ y, ((D.asStr y).bind fun (t52 : Str) => Res.ok (decide (t52 ∈ (((fun (x : (T8 Str Str Str Str Str Str Str Str)) => Tu.mk [x.a, x.b, x.c, x.e, x.f, x.g, x.h, x.i]) k_RIGHTS)).xs))) = ((D.asStr y).bind fun (t : Str) => Res.ok (decide (t ∈ (["", "a", "s", "w", "as", "aw", "sw", "asw"] : List Str)))) := fun _ => rfl
  unfold m_u_is_body
  simp only [Res.bind_ok, len, at_]
  by_cases c0 : kind = k_STATE
  · have e : sfind kinds kind = some 0 := by subst c0; decide +kernel
    rw [e, show (kind == k_STATE) = true from decide_eq_true c0, cond_true]
    match ds, h with
    | [], _ => rfl
    | [x], h =>
      rw [decide_eq_true (show (([x] : List D).length : Int) = 1 from rfl), cond_true, i0]
      simp only [Res.bind_ok]
      exact (data_ok (h x List.mem_cons_self) 1024).1
    | x :: y :: r, _ =>
      rw [decide_eq_false (show ¬ ((x :: y :: r).length : Int) = 1 by rw [List.length_cons, List.length_cons]; omega)]; rfl
  rw [show (kind == k_STATE) = false from decide_eq_false c0, cond_false]
  by_cases c1 : kind = k_ADMIT
  · have e : sfind kinds kind = some 1 := by subst c1; decide +kernel
    rw [e, show (kind == k_ADMIT) = true from decide_eq_true c1, cond_true]
    match ds, h with
    | [], _ => rfl
    | [x], _ => rfl
    | [x, y], h =>
      have px := h x List.mem_cons_self
      have py := h y (List.mem_cons_of_mem _ List.mem_cons_self)
      rw [decide_eq_true (show (([x, y] : List D).length : Int) = 2 from rfl), cond_true, i0, i1]
      simp only [Res.bind_ok]
      rw [(text_ok px).1, Res.bind_ok]
      show _ = Res.ok (isText x && inRights y)
      cases isText x with
      | false => rfl
      | true =>
        rw [cond_true, str_in (pn_plain py), Res.bind_ok]
        cases q : isStr y with
        | false => rw [rights_no q]; rfl
        | true => rw [cond_true, rg, rights_in q]; rfl
    | x :: y :: z :: r, _ =>
      rw [decide_eq_false (show ¬ ((x :: y :: z :: r).length : Int) = 2 by rw [List.length_cons, List.length_cons, List.length_cons]; omega)]; rfl
  rw [show (kind == k_ADMIT) = false from decide_eq_false c1, cond_false]
  by_cases c2 : kind = k_REPLACE
  · have e : sfind kinds kind = some 2 := by subst c2; decide +kernel
    rw [e, show (kind == k_REPLACE) = true from decide_eq_true c2, cond_true]
    match ds, h with
    | [], _ => rfl
    | [x], _ => rfl
    | [x, y], h =>
      have px := h x List.mem_cons_self
      have py := h y (List.mem_cons_of_mem _ List.mem_cons_self)
      rw [decide_eq_true (show (([x, y] : List D).length : Int) = 2 from rfl), cond_true, i0, i1]
      simp only [Res.bind_ok]
      rw [(text_ok px).1, Res.bind_ok, (data_ok py 256).1]
      show _ = Res.ok (isText x && isData 256 y)
      cases isText x <;> rfl
    | x :: y :: z :: r, _ =>
      rw [decide_eq_false (show ¬ ((x :: y :: z :: r).length : Int) = 2 by rw [List.length_cons, List.length_cons, List.length_cons]; omega)]; rfl
  rw [show (kind == k_REPLACE) = false from decide_eq_false c2, cond_false]
  by_cases c3 : kind = k_WITHDRAW
  · have e : sfind kinds kind = some 3 := by subst c3; decide +kernel
    rw [e, show (kind == k_WITHDRAW) = true from decide_eq_true c3, cond_true]
    match ds, h with
    | [], _ => rfl
    | [x], h =>
      rw [decide_eq_true (show (([x] : List D).length : Int) = 1 from rfl), cond_true, i0]
      simp only [Res.bind_ok]
      exact (text_ok (h x List.mem_cons_self)).1
    | x :: y :: r, _ =>
      rw [decide_eq_false (show ¬ ((x :: y :: r).length : Int) = 1 by rw [List.length_cons, List.length_cons]; omega)]; rfl
  rw [show (kind == k_WITHDRAW) = false from decide_eq_false c3, cond_false]
  have e : sfind kinds kind = none := by
    have d0 : ¬ (("state" : Str) = kind) := fun z => c0 z.symm
    have d1 : ¬ (("admit" : Str) = kind) := fun z => c1 z.symm
    have d2 : ¬ (("replace" : Str) = kind) := fun z => c2 z.symm
    have d3 : ¬ (("withdraw" : Str) = kind) := fun z => c3 z.symm
    unfold kinds
    simp only [sfind, if_neg d0, if_neg d1, if_neg d2, if_neg d3]
    rfl
  rw [e]
theorem lbody_ok {ds : List D} (h : ∀ x ∈ ds, Pn 1 x) (i : Nat) (hi : i < 4) : m_u_law_is_body (i : Int) (.tup ds) = .ok (entBody i ds) := by
  have len : D.lenR (.tup ds) = .ok (ds.length : Int) := rfl
  have at_ : D.asTu (.tup ds) = .ok ⟨ds⟩ := rfl
  have rg : ∀ y, ((D.asStr y).bind fun (t249 : Str) => Res.ok (decide (t249 ∈ (((fun (x : (T8 Str Str Str Str Str Str Str Str)) => Tu.mk [x.a, x.b, x.c, x.e, x.f, x.g, x.h, x.i]) (T8.mk ("" : Str) ("a" : Str) ("s" : Str) ("w" : Str) ("as" : Str) ("aw" : Str) ("sw" : Str) ("asw" : Str)))).xs))) = ((D.asStr y).bind fun (t : Str) => Res.ok (decide (t ∈ (["", "a", "s", "w", "as", "aw", "sw", "asw"] : List Str)))) := fun _ => rfl
  unfold m_u_law_is_body
  rw [Res.need_pos (by rfl), show isI "tuple" (toD (D.tup ds)) = true from rfl]
  simp only [Res.bind_ok, len, at_, Bool.not_true, cond_false]
  have hi : i = 0 ∨ i = 1 ∨ i = 2 ∨ i = 3 := by omega
  rcases hi with rfl | rfl | rfl | rfl
  · rw [show idx ([1, 2, 2, 1] : List Int) ((0 : Nat) : Int) = .ok 1 from idx_nat rfl, Res.bind_ok, Res.bind_ok]
    match ds, h with
    | [], _ => rfl
    | [x], h =>
      show cond false _ (cond true _ _) = _
      rw [cond_false, cond_true, i0]
      simp only [Res.bind_ok]
      exact (data_ok (h x List.mem_cons_self) 1024).2
    | x :: y :: r, _ =>
      rw [decide_eq_false (show ¬ ((x :: y :: r).length : Int) = 1 by rw [List.length_cons, List.length_cons]; omega)]; rfl
  · rw [show idx ([1, 2, 2, 1] : List Int) ((1 : Nat) : Int) = .ok 2 from idx_nat rfl, Res.bind_ok, Res.bind_ok]
    match ds, h with
    | [], _ => rfl
    | [x], _ => rfl
    | [x, y], h =>
      have px := h x List.mem_cons_self
      have py := h y (List.mem_cons_of_mem _ List.mem_cons_self)
      show cond false _ (cond false _ _) = _
      rw [cond_false, cond_false, i0]
      simp only [Res.bind_ok]
      rw [(text_ok px).2, Res.bind_ok, Res.bind_ok]
      show _ = Res.ok (isText x && inRights y)
      cases isText x with
      | false => rfl
      | true =>
        show cond false _ (cond true _ _) = _
        rw [cond_false, cond_true, i1]
        simp only [Res.bind_ok]
        rw [str_in (pn_plain py), Res.bind_ok]
        cases q : isStr y with
        | false => rw [rights_no q]; rfl
        | true => rw [cond_true, rg, rights_in q]; rfl
    | x :: y :: z :: r, _ =>
      rw [decide_eq_false (show ¬ ((x :: y :: z :: r).length : Int) = 2 by rw [List.length_cons, List.length_cons, List.length_cons]; omega)]; rfl
  · rw [show idx ([1, 2, 2, 1] : List Int) ((2 : Nat) : Int) = .ok 2 from idx_nat rfl, Res.bind_ok, Res.bind_ok]
    match ds, h with
    | [], _ => rfl
    | [x], _ => rfl
    | [x, y], h =>
      have px := h x List.mem_cons_self
      have py := h y (List.mem_cons_of_mem _ List.mem_cons_self)
      show cond false _ (cond false _ _) = _
      rw [cond_false, cond_false, i0]
      simp only [Res.bind_ok]
      rw [(text_ok px).2, Res.bind_ok, Res.bind_ok]
      show _ = Res.ok (isText x && isData 256 y)
      cases isText x with
      | false => rfl
      | true =>
        show cond false _ (cond false _ (cond false _ _)) = _
        rw [cond_false, cond_false, cond_false, i1]
        simp only [Res.bind_ok]
        rw [(data_ok py 256).2]; rfl
    | x :: y :: z :: r, _ =>
      rw [decide_eq_false (show ¬ ((x :: y :: z :: r).length : Int) = 2 by rw [List.length_cons, List.length_cons, List.length_cons]; omega)]; rfl
  · rw [show idx ([1, 2, 2, 1] : List Int) ((3 : Nat) : Int) = .ok 1 from idx_nat rfl, Res.bind_ok, Res.bind_ok]
    match ds, h with
    | [], _ => rfl
    | [x], h =>
      show cond false _ (cond false _ _) = _
      rw [cond_false, cond_false, i0]
      simp only [Res.bind_ok]
      rw [(text_ok (h x List.mem_cons_self)).2, Res.bind_ok, Res.bind_ok]
      show _ = Res.ok (isText x)
      cases isText x <;> rfl
    | x :: y :: r, _ =>
      rw [decide_eq_false (show ¬ ((x :: y :: r).length : Int) = 1 by rw [List.length_cons, List.length_cons]; omega)]; rfl
theorem lbody_no {b : D} (h : b.plain = true) (ht : ∀ ds, b ≠ .tup ds) (i : Int) : m_u_law_is_body i b = .ok false := by
  unfold m_u_law_is_body
  rw [Res.need_pos (show (toD b).plain = true from h), (not_tup 0 ht).1]
  rfl
def entryB : D → Bool
  | .tup [.str k, a, .tup ds, s] => isText a && isData 256 s && (match sfind kinds k with | some i => entBody i ds | none => false)
  | _ => false
theorem sfind_lt {k : Str} {i : Nat} (h : sfind kinds k = some i) : i < 4 := by
  have := (sfind_ok h).1
  have l := (List.getElem?_eq_some_iff.mp this).1
  exact l
theorem sfind_in (k : Str) : decide (k ∈ kinds) = (sfind kinds k).isSome := by
  cases h : sfind kinds k with
  | some i =>
    have := (sfind_ok h).1
    rw [decide_eq_true (List.mem_of_getElem? this)]; rfl
  | none =>
    rw [decide_eq_false]; · rfl
    unfold kinds at *
    intro m
    have : k = "state" ∨ k = "admit" ∨ k = "replace" ∨ k = "withdraw" := by simpa using m
    rcases this with rfl | rfl | rfl | rfl <;> exact absurd h (by decide +kernel)
theorem j2 {x y z : D} {r : List D} : idx (x :: y :: z :: r) (2 : Int) = .ok z := idx_nat (j := 2) rfl
theorem j3 {x y z w : D} {r : List D} : idx (x :: y :: z :: w :: r) (3 : Int) = .ok w := idx_nat (j := 3) rfl
theorem entry_four {k a b s : D} (hk : Pn 2 k) (ha : Pn 2 a) (hb : Pn 2 b) (hs : Pn 2 s) : m_is_entry (.tup [k, a, b, s]) = .ok (entryB (.tup [k, a, b, s])) ∧ m_u_law_due (.tup [k, a, b, s]) = .ok (entryB (.tup [k, a, b, s])) := by
  have len : D.lenR (.tup [k, a, b, s]) = .ok 4 := rfl
  have at_ : D.asTu (.tup [k, a, b, s]) = .ok ⟨[k, a, b, s]⟩ := rfl
  have a4 : D.asT4 (.tup [k, a, b, s]) = .ok ⟨k, a, b, s⟩ := rfl
  have it : isI "tuple" (toD (D.tup [k, a, b, s])) = true := rfl
  constructor
  · unfold m_is_entry
    rw [Res.need_pos (by rfl), it]
    simp only [Res.bind_ok, len, a4, Bool.not_true, cond_false]
    rw [decide_true, Bool.not_true, cond_false, (text_ok ha).1, Res.bind_ok, Res.bind_ok]
    cases ta : isText a with
    | false =>
      have : entryB (.tup [k, a, b, s]) = false := by unfold entryB; split <;> first | rfl | (rename_i e; cases e; rw [ta]; rfl)
      rw [this]; rfl
    | true =>
      rw [Bool.not_true, cond_false, Res.need_pos (show (toD b).plain = true from pn_plain hb)]
      by_cases q : ∃ ds, b = .tup ds
      · obtain ⟨ds, rfl⟩ := q
        obtain ⟨_, hd⟩ := hb.2.2 ds rfl
        rw [show isI "tuple" (toD (D.tup ds)) = true from rfl]
        simp only [Res.bind_ok, Bool.not_true, cond_false]
        rw [(data_ok hs 256).1, Res.bind_ok, Res.bind_ok]
        cases ts : isData 256 s with
        | false =>
          have : entryB (.tup [k, a, .tup ds, s]) = false := by unfold entryB; split <;> first | rfl | (rename_i e; cases e; rw [ta, ts]; rfl)
          rw [this]; rfl
        | true =>
          rw [Bool.not_true, cond_false, str_in (pn_plain hk), Res.bind_ok]
          by_cases qk : ∃ kk, k = .str kk
          · obtain ⟨kk, rfl⟩ := qk
            show cond true _ _ = Res.ok (isText a && isData 256 s && _)
            rw [cond_true, show D.asStr (.str kk) = .ok kk from rfl]
            simp only [Res.bind_ok]
            rw [body_ok hd kk, ta, ts]
            rfl
          · have n : isStr k = false := by cases k <;> first | rfl | exact absurd ⟨_, rfl⟩ qk
            have : entryB (.tup [k, a, .tup ds, s]) = false := by unfold entryB; split <;> first | rfl | (rename_i e; cases e; exact absurd ⟨_, rfl⟩ qk)
            rw [n, this]; rfl
      · have q : ∀ ds, b ≠ .tup ds := fun ds e => q ⟨ds, e⟩
        have : entryB (.tup [k, a, b, s]) = false := by unfold entryB; split <;> first | rfl | (rename_i e; cases e; exact absurd rfl (q _))
        rw [(not_tup 0 q).1, this]; rfl
  · unfold m_u_law_due
    rw [Res.need_pos (by rfl), it]
    simp only [Res.bind_ok, len, at_, Bool.not_true, cond_false]
    rw [decide_true, Bool.not_true, cond_false, i0]
    simp only [Res.bind_ok]
    rw [str_in (pn_plain hk), Res.bind_ok, Res.bind_ok]
    by_cases qk : ∃ kk, k = .str kk
    · obtain ⟨kk, rfl⟩ := qk
      show cond false _ _ = _
      rw [cond_false, show D.asStr (.str kk) = .ok kk from rfl]
      simp only [Res.bind_ok]
      rw [show decide (kk ∈ ([("state" : Str), ("admit" : Str), ("replace" : Str), ("withdraw" : Str)] : List Str)) = (sfind kinds kk).isSome from sfind_in kk]
      cases e : sfind kinds kk with
      | none =>
        have : entryB (.tup [.str kk, a, b, s]) = false := by
          unfold entryB; split
          · rename_i z; cases z; rw [e]; exact Bool.and_false _
          · rfl
        rw [this]; rfl
      | some i =>
        rw [Option.isSome_some, Bool.not_true, cond_false, i1]
        simp only [Res.bind_ok]
        rw [(text_ok ha).2, Res.bind_ok, Res.bind_ok]
        cases ta : isText a with
        | false =>
          have : entryB (.tup [.str kk, a, b, s]) = false := by unfold entryB; split <;> first | rfl | (rename_i e; cases e; rw [ta]; rfl)
          rw [this]; rfl
        | true =>
          rw [Bool.not_true, cond_false, j3]
          simp only [Res.bind_ok]
          rw [(data_ok hs 256).2, Res.bind_ok, Res.bind_ok]
          cases ts : isData 256 s with
          | false =>
            have : entryB (.tup [.str kk, a, b, s]) = false := by unfold entryB; split <;> first | rfl | (rename_i e; cases e; rw [ta, ts]; rfl)
            rw [this]; rfl
          | true =>
            rw [Bool.not_true, cond_false, show sfind ([("state" : Str), ("admit" : Str), ("replace" : Str), ("withdraw" : Str)] : List Str) kk = some i from e, j2]
            simp only [Res.bind_ok]
            by_cases q : ∃ ds, b = .tup ds
            · obtain ⟨ds, rfl⟩ := q
              obtain ⟨_, hd⟩ := hb.2.2 ds rfl
              rw [lbody_ok hd i (sfind_lt e)]
              show _ = Res.ok (isText a && isData 256 s && _)
              rw [ta, ts, e]; rfl
            · have q : ∀ ds, b ≠ .tup ds := fun ds e => q ⟨ds, e⟩
              have : entryB (.tup [.str kk, a, b, s]) = false := by unfold entryB; split <;> first | rfl | (rename_i e; cases e; exact absurd rfl (q _))
              rw [lbody_no (pn_plain hb) q, this]
    · have n : isStr k = false := by cases k <;> first | rfl | exact absurd ⟨_, rfl⟩ qk
      have : entryB (.tup [k, a, b, s]) = false := by unfold entryB; split <;> first | rfl | (rename_i e; cases e; exact absurd ⟨_, rfl⟩ qk)
      rw [n, this]; rfl
theorem entry_ok {v : D} (h : Pn 3 v) : m_is_entry v = .ok (entryB v) ∧ m_u_law_due v = .ok (entryB v) := by
  by_cases q : ∃ ds, v = .tup ds
  · obtain ⟨ds, rfl⟩ := q
    obtain ⟨_, hd⟩ := h.2.2 ds rfl
    by_cases l : ds.length = 4
    · match ds, l, hd with
      | [k, a, b, s], _, hd =>
        exact entry_four (hd k List.mem_cons_self) (hd a (List.mem_cons_of_mem _ List.mem_cons_self)) (hd b (List.mem_cons_of_mem _ (List.mem_cons_of_mem _ List.mem_cons_self))) (hd s (List.mem_cons_of_mem _ (List.mem_cons_of_mem _ (List.mem_cons_of_mem _ List.mem_cons_self))))
    · have : entryB (.tup ds) = false := by
        unfold entryB; split
        · rename_i z; cases z; exact absurd rfl l
        · rfl
      have len : D.lenR (.tup ds) = .ok (ds.length : Int) := rfl
      unfold m_is_entry m_u_law_due
      rw [Res.need_pos (by rfl), show isI "tuple" (toD (D.tup ds)) = true from rfl, this]
      simp only [Res.bind_ok, len, Bool.not_true, cond_false]
      rw [decide_eq_false (show ¬ (ds.length : Int) = 4 by omega)]
      exact ⟨rfl, rfl⟩
  · have q : ∀ ds, v ≠ .tup ds := fun ds e => q ⟨ds, e⟩
    have : entryB v = false := by
      unfold entryB; split
      · exact absurd rfl (q _)
      · rfl
    unfold m_is_entry m_u_law_due
    rw [Res.need_pos (show (toD v).plain = true from pn_plain h), (not_tup 0 q).1, this]
    exact ⟨rfl, rfl⟩

/-! ### values that may be compared -/
def nice (n : Nat) (d : D) : Prop := d.flat = true ∧ d.py.canLay0 = true ∧ d.py.depth ≤ n ∧ d.nob = true
theorem nice_all {n : Nat} : ∀ ds : List D, (∀ d ∈ ds, nice n d) → flatL ds = true ∧ PyData.canLayAll0 (pyL ds) = true ∧ PyData.depthAll (pyL ds) ≤ n ∧ nobL ds = true
  | [], _ => ⟨rfl, rfl, Nat.zero_le _, rfl⟩
  | x :: r, h => by
    obtain ⟨a1, a2, a3, a4⟩ := h x List.mem_cons_self
    obtain ⟨b1, b2, b3, b4⟩ := nice_all r fun z hz => h z (List.mem_cons_of_mem _ hz)
    refine ⟨?_, ?_, ?_, ?_⟩
    · show (x.flat && flatL r) = true
      rw [a1, b1]; rfl
    · show (PyData.canLay0 x.py && PyData.canLayAll0 (pyL r)) = true
      rw [a2, b2]; rfl
    · show max (PyData.depth x.py) (PyData.depthAll (pyL r)) ≤ n
      omega
    · show (x.nob && nobL r) = true
      rw [a4, b4]; rfl
theorem nice_lst {n : Nat} {ds : List D} (h : ∀ d ∈ ds, nice n d) : nice (n + 1) (.lst ds) := by
  obtain ⟨a, b, c, d⟩ := nice_all ds h
  exact ⟨a, b, Nat.succ_le_succ c, d⟩
theorem nice_okq {n : Nat} {d : D} (h : nice n d) (hn : n ≤ 64) : d.okq = true := by
  obtain ⟨a, b, c, _⟩ := h
  show (d.flat && (PyData.canLay0 d.py && decide (d.py.depth ≤ 64))) = true
  rw [a, b, decide_eq_true (by omega)]; rfl
theorem nice_eq {n : Nat} {d : D} (h : nice n d) : pyEq d d = true := pyEq_self h.2.2.2
theorem nice_int (n : Nat) (i : Int) : nice n (.int i) := ⟨rfl, rfl, Nat.zero_le _, rfl⟩

/-! ### k65: what is drawn, and the law -/
theorem nby_loop (c : Int) (gr : Bool) (k : Int × List Int → Res (Nw Int)) : ∀ (ks : List Int) (l : Int) (ds : List Int), Byt ds → ds.length + ks.length ≤ 10000 → ∃ l' es, m_u_law_bytes_l1 c gr k ks (l, ds) = k (l', es) ∧ Byt es ∧ es.length = ds.length + ks.length
  | [], l, ds, h, _ => ⟨l, ds, by rw [m_u_law_bytes_l1], h, rfl⟩
  | x :: r, l, ds, h, hl => by
    rw [List.length_cons] at hl ⊢
    obtain ⟨t, e, t0⟩ := twice_ok c (k := x)
    have go : ∀ (y l1 : Int), 0 ≤ y → y ≤ 255 → ∃ l' es, m_u_law_bytes_l1 c gr k r (l1, ds ++ [y]) = k (l', es) ∧ Byt es ∧ es.length = ds.length + (r.length + 1) := fun y l1 y0 y1 => by
      have yb : Byt [y] := fun d hd => by cases List.mem_singleton.mp hd; exact ⟨y0, y1⟩
      obtain ⟨l', es, q1, q2, q3⟩ := nby_loop c gr k r l1 (ds ++ [y]) (byt_app h yb) (by rw [List.length_append, List.length_singleton]; omega)
      exact ⟨l', es, q1, q2, by rw [List.length_append, List.length_singleton] at q3; omega⟩
    rw [m_u_law_bytes_l1]
    simp only [Res.bind_ok, e, Res.need_pos (show ds.length < 16777216 by omega)]
    have w : (cond gr (Res.ok (decide (0 < l))) (Res.ok false)) = Res.ok (cond gr (decide (0 < l)) false) := by cases gr <;> rfl
    rw [w]
    simp only [Res.bind_ok]
    cases (cond gr (decide (0 < l)) false) with
    | true => rw [cond_true]; exact go _ _ (by omega) (by omega)
    | false => rw [cond_false]; exact go _ _ (by omega) (by omega)
theorem nby_ok (c : Int) {s : Nat} (hs : s ≤ 9000) : ∃ es, m_u_law_bytes c (s : Int) = .ok ⟨es⟩ ∧ Byt es ∧ es.length = s := by
  obtain ⟨l', es, q1, q2, q3⟩ := nby_loop c (decide ((10 : Int) ^ (18 : Int).toNat ≤ (c.natAbs : Int))) m_u_law_bytes_k2 (pyRange 0 (s : Int)) (c.natAbs : Int) [] (fun d hd => by cases hd) (by rw [pyRange_len, List.length_nil]; omega)
  refine ⟨es, ?_, q2, by rw [q3, pyRange_len, List.length_nil]; omega⟩
  unfold m_u_law_bytes
  simp only [Res.bind_ok, Res.need_pos (show okRange (s : Int) from ⟨by omega, by omega⟩), q1]
  rfl
theorem idx_mem {α : Type} {xs : List α} {i : Int} (h0 : 0 ≤ i) (h1 : i < xs.length) : ∃ x, idx xs i = .ok x ∧ x ∈ xs := by
  obtain ⟨j, rfl⟩ := Int.eq_ofNat_of_zero_le h0
  have hj : j < xs.length := by omega
  exact ⟨xs[j], idx_nat (List.getElem?_eq_getElem hj), List.getElem_mem _⟩
theorem all_mem {α : Type} {p : α → Bool} {xs : List α} (h : xs.all p = true) {x : α} (hx : x ∈ xs) : p x = true := List.all_eq_true.mp h x hx
def shortS (s : Str) : Bool := decide ((cds s).length ≤ 1000)
theorem rep_short (x : Str) (n : Nat) (h : x.cps.size * n ≤ 1000) : shortS (repS x (n : Int)) = true := by
  have e : (cds (repS x (n : Int))).length = (repS x (n : Int)).cps.size := rfl
  have r := rep_size x.cps #[] n
  have e2 : (repS x (n : Int)).cps = (List.replicate n x.cps).foldl (· ++ ·) #[] := rfl
  refine decide_eq_true ?_
  rw [e, e2, r]
  show 0 + _ ≤ _
  omega
theorem text_ex {c : Int} (hc : 0 ≤ c) : ∃ s, m_u_law_text c = .ok s ∧ (cds s).length ≤ 1000 := by
  have r1 : RepT ("x" : Str) (600 : Int) := ⟨by decide, by decide, by decide +kernel⟩
  have r2 : RepT ("y" : Str) (601 : Int) := ⟨by decide, by decide, by decide +kernel⟩
  have s1 : shortS (repS ("x" : Str) (600 : Int)) = true := rep_short _ 600 (by decide +kernel)
  have s2 : shortS (repS ("y" : Str) (601 : Int)) = true := rep_short _ 601 (by decide +kernel)
  unfold m_u_law_text
  rw [Res.need_pos r1, Res.need_pos r2]
  simp only [Res.bind_ok]
  generalize repS ("x" : Str) (600 : Int) = x at *
  generalize repS ("y" : Str) (601 : Int) = y at *
  have all : ([("eddsa-e13:0a:12345678" : Str), "key", "", "a b", x, "~", " ", y, "a\t", "a\n", "\nabc"] : List Str).all shortS = true := by
    simp only [List.all_cons, List.all_nil, s1, s2, Bool.true_and, Bool.and_true]
    decide +kernel
  have fin : ∀ i : Int, 0 ≤ i → i < 11 → ∃ s, idx ([("eddsa-e13:0a:12345678" : Str), "key", "", "a b", x, "~", " ", y, "a\t", "a\n", "\nabc"] : List Str) i = .ok s ∧ (cds s).length ≤ 1000 := fun i h0 h1 => by
    obtain ⟨s, e, m⟩ := idx_mem (xs := ([("eddsa-e13:0a:12345678" : Str), "key", "", "a b", x, "~", " ", y, "a\t", "a\n", "\nabc"] : List Str)) h0 h1
    exact ⟨s, e, of_decide_eq_true (all_mem all m)⟩
  cases decide ((0 : Int) < c / 11 % 4) with
  | true => rw [cond_true]; exact fin _ (by omega) (by omega)
  | false => rw [cond_false]; exact fin _ (by omega) (by omega)
theorem tup_tu (ds : List D) : (toD (Tu.mk ds) : D) = D.tup ds := by
  show D.tup (ds.map fun x => x) = _
  rw [List.map_id']
theorem pn_int (k : Nat) (i : Int) : Pn k (.int i) := pn_flat k rfl (fun _ e => by cases e) fun _ e => by cases e
theorem flat0 {d : D} (h : d.plain = true) (hs : ∀ s, d ≠ .str s) (ht : ∀ ds, d ≠ .tup ds) : Pn 1 d := pn_flat 1 h hs ht
theorem data_ex {c most : Int} (hc : 0 ≤ c) (m0 : 0 ≤ most) (m1 : most ≤ 1024) : ∃ d, m_u_law_data c most = .ok d ∧ Pn 2 d := by
  have t0 : ∃ t : Int, CMulX (c / 9 % 12 % 4) (if (decide (c / 9 % 12 < (4 : Int))) = true then (1 : Int) else 0) ∧ (c / 9 % 12 % 4) * (if (decide (c / 9 % 12 < (4 : Int))) = true then (1 : Int) else 0) = t ∧ 0 ≤ t ∧ t < 4 := by
    by_cases q : c / 9 % 12 < 4
    · rw [if_pos (decide_eq_true q)]
      exact ⟨_, cmulx (a := 32) (b := 32) (by omega) (by decide) (by decide), rfl, by omega, by omega⟩
    · rw [if_neg (by rw [decide_eq_false q]; exact Bool.false_ne_true)]
      exact ⟨_, cmulx (a := 32) (b := 32) (by omega) (by decide) (by decide), rfl, by omega, by omega⟩
  obtain ⟨t, cm, et, t0, t1⟩ := t0
  obtain ⟨sz, es, ms⟩ := idx_mem (xs := ([c % 9, most, most + 1, 0] : List Int)) t0 t1
  have sz0 : 0 ≤ sz ∧ sz ≤ 1025 := by
    rcases List.mem_cons.mp ms with rfl | ms
    · omega
    rcases List.mem_cons.mp ms with rfl | ms
    · omega
    rcases List.mem_cons.mp ms with rfl | ms
    · omega
    cases List.mem_singleton.mp ms; omega
  obtain ⟨n, rfl⟩ := Int.eq_ofNat_of_zero_le sz0.1
  obtain ⟨ds, eb, _, ld⟩ := nby_ok (c / 108) (s := n) (by omega)
  unfold m_u_law_data
  rw [Res.need_pos cm, et, Res.bind_ok, es, Res.bind_ok, eb]
  simp only [Res.bind_ok]
  have fin : ∀ xs : List D, xs.length = n → (∀ x ∈ xs, Pn 1 x) → ∃ d, m_u_law_data_k1 xs = .ok d ∧ Pn 2 d := fun xs lx hx => by
    unfold m_u_law_data_k1
    rw [tup_tu]
    exact ⟨_, rfl, pn_tup (by omega) hx⟩
  have hits : ∀ x ∈ ds.map (toD : Int → D), Pn 1 x := fun x hx => by
    obtain ⟨i, _, rfl⟩ := List.mem_map.mp hx
    exact pn_int 1 i
  have lm : (ds.map (toD : Int → D)).length = n := by rw [List.length_map]; exact ld
  by_cases q : c / 108 % 16 = 1
  · rw [decide_eq_true q, cond_true, Res.bind_ok]
    by_cases y : (0 : Int) < (n : Int)
    · have a0 := Int.emod_nonneg (c / 1728) (Int.ne_of_gt y)
      have a1 := Int.emod_lt_of_pos (c / 1728) y
      obtain ⟨v, ev, mv⟩ := idx_mem (xs := ([(toD (256 : Int)), (toD (-(1 : Int))), (toD true), (toD ("a" : Str))] : List D)) (i := c / 7 % 4) (by omega) (by show _ < (4 : Int); omega)
      have pv : Pn 1 v := by
        rcases List.mem_cons.mp mv with rfl | mv
        · exact flat0 rfl (fun s e => by cases e) fun s e => by cases e
        rcases List.mem_cons.mp mv with rfl | mv
        · exact flat0 rfl (fun s e => by cases e) fun s e => by cases e
        rcases List.mem_cons.mp mv with rfl | mv
        · exact flat0 rfl (fun s e => by cases e) fun s e => by cases e
        cases List.mem_singleton.mp mv
        exact pn_mkstr 1 (by decide +kernel)
      obtain ⟨j, hj⟩ := Int.eq_ofNat_of_zero_le a0
      have ix : ixN (ds.map (toD : Int → D)).length (c / 1728 % (n : Int)) = some j := by
        rw [lm]
        unfold ixN
        rw [if_pos a0, if_pos a1, hj]; simp
      rw [decide_eq_true y, cond_true, ev, Res.bind_ok, Res.need_pos y, Res.bind_ok, ix]
      dsimp only
      unfold m_u_law_data_k2
      refine fin _ (by rw [List.length_set]; exact lm) fun x hx => ?_
      rcases List.mem_or_eq_of_mem_set hx with hx | hx
      · exact hits x hx
      · rw [hx]; exact pv
    · rw [decide_eq_false y, cond_false]; exact fin _ lm hits
  · rw [decide_eq_false q, cond_false, Res.bind_ok, cond_false]; exact fin _ lm hits
theorem rights_ex {c : Int} (hc : 0 ≤ c) : ∃ s, m_u_law_rights c = .ok s ∧ (cds s).length ≤ 1000 := by
  obtain ⟨s, e, m⟩ := idx_mem (xs := ([("asw" : Str), ("" : Str), ("a" : Str), ("s" : Str), ("w" : Str), ("as" : Str), ("aw" : Str), ("sw" : Str), ("sa" : Str), ("aa" : Str), ("b" : Str), ("asww" : Str)] : List Str)) (i := c % 12) (by omega) (by show _ < (12 : Int); omega)
  have all : ([("asw" : Str), ("" : Str), ("a" : Str), ("s" : Str), ("w" : Str), ("as" : Str), ("aw" : Str), ("sw" : Str), ("sa" : Str), ("aa" : Str), ("b" : Str), ("asww" : Str)] : List Str).all shortS = true := by decide +kernel
  exact ⟨s, e, of_decide_eq_true (all_mem all m)⟩
theorem lawbody_ex (kind : Str) {c : Int} (hc : 0 ≤ c) : ∃ ds, m_u_law_body kind c = .ok (.tup ds) ∧ ds ≠ [] ∧ ds.length ≤ 2 ∧ ∀ x ∈ ds, Pn 1 x := by
  obtain ⟨d, ed, pd⟩ := data_ex hc (most := 1024) (by decide) (by decide)
  obtain ⟨d2, ed2, pd2⟩ := data_ex (c := c / 50) (by omega) (most := 256) (by decide) (by decide)
  obtain ⟨s, es, ps⟩ := text_ex hc
  obtain ⟨r, er, pr⟩ := rights_ex (c := c / 50) (by omega)
  have one : ∀ x : D, Pn 1 x → ∀ y ∈ [x], Pn 1 y := fun x h y hy => by cases List.mem_singleton.mp hy; exact h
  have two : ∀ x z : D, Pn 1 x → Pn 1 z → ∀ y ∈ [x, z], Pn 1 y := fun x z h k y hy => by
    rcases List.mem_cons.mp hy with rfl | hy
    · exact h
    · cases List.mem_singleton.mp hy; exact k
  unfold m_u_law_body
  rw [ed, ed2, es, er]
  simp only [Res.bind_ok]
  cases kind == ("state" : Str) with
  | true => exact ⟨[d], rfl, (fun h => nomatch h), by show 1 ≤ 2; decide, one _ (pn_of pd)⟩
  | false =>
    rw [cond_false]
    cases kind == ("withdraw" : Str) with
    | true => exact ⟨[.str s], rfl, (fun h => nomatch h), by show 1 ≤ 2; decide, one _ (pn_mkstr 1 ps)⟩
    | false =>
      rw [cond_false]
      cases kind == ("admit" : Str) with
      | true => exact ⟨[.str s, .str r], rfl, (fun h => nomatch h), by show 2 ≤ 2; decide, two _ _ (pn_mkstr 1 ps) (pn_mkstr 1 pr)⟩
      | false => exact ⟨[.str s, d2], rfl, (fun h => nomatch h), by show 2 ≤ 2; decide, two _ _ (pn_mkstr 1 ps) (pn_of pd2)⟩
theorem other_ex {c : Int} : ∃ d, m_u_law_other c = .ok d ∧ Pn 3 d := by
  unfold m_u_law_other
  have h0 := Int.emod_nonneg c (show (8 : Int) ≠ 0 by decide)
  have h1 := Int.emod_lt_of_pos c (show (0 : Int) < 8 by decide)
  generalize c % 8 = i at *
  have f : ∀ d : D, d.plain = true → (∀ s, d ≠ .str s) → (∀ ds, d ≠ .tup ds) → Pn 3 d := fun d a b e => pn_flat 3 a b e
  rcases (show i = 0 ∨ i = 1 ∨ i = 2 ∨ i = 3 ∨ i = 4 ∨ i = 5 ∨ i = 6 ∨ i = 7 by omega) with rfl | rfl | rfl | rfl | rfl | rfl | rfl | rfl
  · exact ⟨_, idx_nat (j := 0) rfl, f _ rfl (fun _ e => by cases e) fun _ e => by cases e⟩
  · exact ⟨_, idx_nat (j := 1) rfl, pn_int 3 5⟩
  · exact ⟨_, idx_nat (j := 2) rfl, f _ rfl (fun _ e => by cases e) fun _ e => by cases e⟩
  · exact ⟨_, idx_nat (j := 3) rfl, pn_mkstr 3 (by decide +kernel)⟩
  · exact ⟨_, idx_nat (j := 4) rfl, pn_tup (by show 0 ≤ 2000; decide) fun _ h => nomatch h⟩
  · exact ⟨_, idx_nat (j := 5) rfl, pn_tup (by show 2 ≤ 2000; decide) fun x hx => by
      rcases List.mem_cons.mp hx with rfl | hx
      · exact pn_int 2 1
      · cases List.mem_singleton.mp hx; exact pn_int 2 2⟩
  · exact ⟨_, idx_nat (j := 6) rfl, f _ rfl (fun _ e => by cases e) fun _ e => by cases e⟩
  · exact ⟨_, idx_nat (j := 7) rfl, f _ rfl (fun _ e => by cases e) fun _ e => by cases e⟩
theorem k6v {vs : List D} (hl : vs.length ≤ 5) (h : ∀ x ∈ vs, Pn 2 x) : ∃ v, m_u_law_value_k6 vs = .ok v ∧ Pn 3 v := by
  unfold m_u_law_value_k6
  rw [tup_tu]
  exact ⟨_, rfl, pn_tup (by omega) h⟩
theorem k4v {how : Int} {vs : List D} (hl : vs.length ≤ 5) (h : ∀ x ∈ vs, Pn 2 x) (h5 : how = 5 → ∃ ds, vs[2]? = some (.tup ds) ∧ ds ≠ [] ∧ ds.length ≤ 2 ∧ ∀ x ∈ ds, Pn 1 x) : ∃ v, m_u_law_value_k4 how vs = .ok v ∧ Pn 3 v := by
  unfold m_u_law_value_k4
  rw [Res.bind_ok]
  by_cases a : how = 4
  · rw [decide_eq_true a]
    exact ⟨_, rfl, pn_flat 3 rfl (fun _ e => by cases e) fun _ e => by cases e⟩
  rw [decide_eq_false a, cond_false, Res.bind_ok]
  by_cases b : how = 5
  · obtain ⟨ds, e2, ne, ld, hd⟩ := h5 b
    have l2 : 2 < vs.length := (List.getElem?_eq_some_iff.mp e2).1
    rw [decide_eq_true b, cond_true, show idx vs (2 : Int) = .ok (.tup ds) from idx_nat (j := 2) e2, Res.bind_ok, show D.asTu (.tup ds) = .ok ⟨ds⟩ from rfl, Res.bind_ok, Res.need_pos ⟨ne, (fun z => nomatch z), by show ds.length + 1 ≤ 100000; omega⟩]
    simp only [Res.bind_ok]
    have ix : ixN vs.length (2 : Int) = some 2 := by
      unfold ixN
      rw [if_pos (by decide), if_pos (by omega)]; rfl
    rw [ix]
    dsimp only
    unfold m_u_law_value_k7
    refine k6v (by rw [List.length_set]; exact hl) fun x hx => ?_
    rcases List.mem_or_eq_of_mem_set hx with hx | hx
    · exact h x hx
    · rw [hx, tup_tu]
      refine pn_tup (by rw [List.length_append]; show ds.length + 1 ≤ 2000; omega) fun y hy => ?_
      rcases List.mem_append.mp hy with hy | hy
      · exact hd y hy
      · cases List.mem_singleton.mp hy; exact pn_int 1 1
  · rw [decide_eq_false b, cond_false]; exact k6v hl h
theorem k3v {how : Int} {vs : List D} (hl : vs.length ≤ 4) (h : ∀ x ∈ vs, Pn 2 x) (h5 : how = 5 → ∃ ds, vs[2]? = some (.tup ds) ∧ ds ≠ [] ∧ ds.length ≤ 2 ∧ ∀ x ∈ ds, Pn 1 x) : ∃ v, m_u_law_value_k3 how vs = .ok v ∧ Pn 3 v := by
  unfold m_u_law_value_k3
  rw [Res.bind_ok]
  by_cases a : how = 3
  · rw [decide_eq_true a, cond_true, Res.need_pos (by show vs.length + 1 ≤ 16777216; omega), Res.bind_ok]
    refine k4v (by rw [List.length_append]; show vs.length + 1 ≤ 5; omega) (fun x hx => ?_) (fun z => by omega)
    rcases List.mem_append.mp hx with hx | hx
    · exact h x hx
    · cases List.mem_singleton.mp hx; exact pn_tup (by show 0 ≤ 2000; decide) fun _ h => nomatch h
  · rw [decide_eq_false a, cond_false]; exact k4v (by omega) h h5
theorem k2v {how : Int} {vs : List D} (hl : vs.length ≤ 4) (h : ∀ x ∈ vs, Pn 2 x) (h5 : how = 5 → ∃ ds, vs[2]? = some (.tup ds) ∧ ds ≠ [] ∧ ds.length ≤ 2 ∧ ∀ x ∈ ds, Pn 1 x) : ∃ v, m_u_law_value_k2 how vs = .ok v ∧ Pn 3 v := by
  unfold m_u_law_value_k2
  rw [Res.bind_ok]
  by_cases a : how = 2
  · have cl : (cutL vs none (some (3 : Int))).length ≤ vs.length := by
      unfold cutL; rw [List.length_take, List.length_drop]; omega
    rw [decide_eq_true a, cond_true, Res.bind_ok]
    refine k3v (by omega) (fun x hx => h x (List.mem_of_mem_drop (List.mem_of_mem_take hx))) (fun z => by omega)
  · rw [decide_eq_false a, cond_false]; exact k3v hl h h5
theorem value_ex (ns : Ro Int) {k : Int} (hk : 0 ≤ k) : ∃ v, m_u_law_value ns k = .ok v ∧ Pn 3 v := by
  obtain ⟨c0, d0⟩ := cell_ex ns (show (0 : Int) ≤ 4 * k by omega)
  obtain ⟨c1, d1⟩ := cell_ex ns (show (0 : Int) ≤ 4 * k + 1 by omega)
  obtain ⟨c2, d2⟩ := cell_ex ns (show (0 : Int) ≤ 4 * k + 2 by omega)
  obtain ⟨c3, d3⟩ := cell_ex ns (show (0 : Int) ≤ 4 * k + 3 by omega)
  have m0 : (0 : Int) < 4 + (c0.natAbs : Int) / 6 % 3 := by omega
  have e0 := Int.emod_nonneg ((c0.natAbs : Int) % 6) (Int.ne_of_gt m0)
  have e1 := Int.emod_lt_of_pos ((c0.natAbs : Int) % 6) m0
  obtain ⟨kind, ek, mk⟩ := idx_mem (xs := ([("state" : Str), ("admit" : Str), ("replace" : Str), ("withdraw" : Str), ("State" : Str), ("admits" : Str)] : List Str)) e0 (by show _ < (6 : Int); omega)
  have pk : (cds kind).length ≤ 1000 := of_decide_eq_true (all_mem (p := shortS) (by decide +kernel) mk)
  obtain ⟨kd2, ek2, _⟩ := idx_mem (xs := ([("state" : Str), ("admit" : Str), ("replace" : Str), ("withdraw" : Str)] : List Str)) (i := (c0.natAbs : Int) / 18 % 4) (by omega) (by show _ < (4 : Int); omega)
  obtain ⟨tx, et, pt⟩ := text_ex (c := (c1.natAbs : Int)) (by omega)
  obtain ⟨sg, es, ps⟩ := data_ex (c := (c3.natAbs : Int)) (by omega) (most := 256) (by decide) (by decide)
  obtain ⟨oth, eo, po⟩ := other_ex (c := (c0.natAbs : Int) / 13824)
  have fin : ∀ ds : List D, ds ≠ [] → ds.length ≤ 2 → (∀ x ∈ ds, Pn 1 x) → ∃ v, m_u_law_value_k1 ns k (c0.natAbs : Int) kind (.tup ds) = .ok v ∧ Pn 3 v := by
    intro ds ne ld hd
    have h : ∀ x ∈ [toD kind, toD tx, .tup ds, sg], Pn 2 x := fun x hx => by
      rcases List.mem_cons.mp hx with rfl | hx
      · exact pn_mkstr 2 pk
      rcases List.mem_cons.mp hx with rfl | hx
      · exact pn_mkstr 2 pt
      rcases List.mem_cons.mp hx with rfl | hx
      · exact pn_tup (by omega) hd
      cases List.mem_singleton.mp hx
      exact ps
    unfold m_u_law_value_k1
    rw [d1, d3]
    simp only [Res.bind_ok]
    rw [et, es]
    simp only [Res.bind_ok]
    by_cases a : (c0.natAbs : Int) / 288 % 12 = 1
    · obtain ⟨j, hj⟩ := Int.eq_ofNat_of_zero_le (show 0 ≤ (c0.natAbs : Int) / 3456 % 4 by omega)
      have ix : ixN ([toD kind, toD tx, .tup ds, sg] : List D).length ((c0.natAbs : Int) / 3456 % 4) = some j := by
        unfold ixN
        rw [if_pos (by omega), if_pos (by show _ < (4 : Int); omega), hj]; simp
      rw [decide_eq_true a, cond_true, eo, Res.bind_ok, ix]
      dsimp only
      unfold m_u_law_value_k8
      refine k2v (by rw [List.length_set]; show 4 ≤ 4; decide) (fun x hx => ?_) (fun z => by omega)
      rcases List.mem_or_eq_of_mem_set hx with hx | hx
      · exact h x hx
      · rw [hx]; exact pn_of po
    · rw [decide_eq_false a, cond_false]
      exact k2v (by show 4 ≤ 4; decide) h fun _ => ⟨ds, rfl, ne, ld, hd⟩
  obtain ⟨b1, q1, n1, l1, h1⟩ := lawbody_ex kd2 (c := (c2.natAbs : Int)) (by omega)
  obtain ⟨b2, q2, n2, l2, h2⟩ := lawbody_ex kind (c := (c2.natAbs : Int)) (by omega)
  unfold m_u_law_value
  rw [d0, d2]
  simp only [Res.bind_ok]
  rw [Res.need_pos m0, Res.bind_ok, ek, Res.bind_ok, ek2]
  simp only [Res.bind_ok]
  rw [q1]
  simp only [Res.bind_ok]
  rw [q2]
  simp only [Res.bind_ok]
  cases decide ((0 : Int) < (c0.natAbs : Int) / 72 % 4) with
  | true => rw [cond_true]; exact fin b2 n2 l2 h2
  | false => rw [cond_false]; exact fin b1 n1 l1 h1

/-! ### k65: packing, and the law -/
def hd3 (n : Int) : List Int := [n / 65536, n / 256 % 256, n % 256]
def pk : List (List Int) → List Int
  | [] => []
  | p :: r => hd3 (p.length : Int) ++ p ++ pk r
theorem big3 {n : Int} (h0 : 0 ≤ n) (h1 : n < 10000) : m_to_big n (3 : Int) = .ok (hd3 n) := by
  have p : (256 : Int) ^ 3 = 16777216 := by decide
  have := tobig_ok (s := 3) (by decide) h0 (by rw [p]; omega)
  rw [show ((3 : Nat) : Int) = 3 from rfl] at this
  rw [this]
  show Res.ok [n / 256 / 256 % 256, n / 256 % 256, n % 256] = Res.ok [n / 65536, n / 256 % 256, n % 256]
  rw [show n / 256 / 256 % 256 = n / 65536 by omega]
theorem mapL_id : ∀ ys : List Int, mapL (fun (y : Int) => (Res.ok y)) ys = .ok ys
  | [] => rfl
  | y :: r => by unfold mapL; rw [mapL_id r]; rfl
theorem pack2 : ∀ ps : List (List Int), (∀ p ∈ ps, p.length ≤ 5000) → compL2 (fun (x89 : (List Int)) => ((m_to_big ((x89).length : Int) (3 : Int)).noexc).bind fun (t91 : (List Int)) => Res.need (t91.length + x89.length ≤ 16777216) (Res.ok (t91 ++ x89))) (fun (x89 : (List Int)) (y90 : Int) => (Res.ok y90)) ps = .ok (pk ps)
  | [], _ => rfl
  | p :: r, h => by
    have hp := h p List.mem_cons_self
    unfold compL2
    rw [big3 (by omega) (by omega)]
    show (Res.need (3 + p.length ≤ 16777216) (Res.ok (hd3 (p.length : Int) ++ p))).bind _ = _
    rw [Res.need_pos (by omega), Res.bind_ok, mapL_id, Res.bind_ok, pack2 r fun q hq => h q (List.mem_cons_of_mem _ hq)]
    rfl
theorem pk_len : ∀ ps : List (List Int), (∀ p ∈ ps, p.length ≤ 5000) → (pk ps).length ≤ 5003 * ps.length
  | [], _ => Nat.le_refl _
  | p :: r, h => by
    have hp := h p List.mem_cons_self
    have := pk_len r fun q hq => h q (List.mem_cons_of_mem _ hq)
    show (hd3 (p.length : Int) ++ p ++ pk r).length ≤ 5003 * (r.length + 1)
    rw [List.length_append, List.length_append]
    show 3 + p.length + _ ≤ _
    omega
theorem pack_ok {ps : List (List Int)} (h : ∀ p ∈ ps, p.length ≤ 5000) (hl : ps.length ≤ 100) : m_pack ps = .ok (pk ps) := by
  have := pk_len ps h
  unfold m_pack
  rw [Res.bind_ok, pack2 ps h]
  show (Res.ok (pk ps)).bind _ = _
  rw [Res.bind_ok, Res.need_pos (by omega)]
theorem lpack_ok : ∀ (ps : List (List Int)) (acc : List Int), (∀ p ∈ ps, p.length ≤ 5000) → acc.length + 5003 * ps.length ≤ 16777216 → m_u_law_pack_l1 m_u_law_pack_k2 ps acc = .ok (acc ++ pk ps)
  | [], acc, _, _ => by rw [m_u_law_pack_l1]; show Res.ok acc = Res.ok (acc ++ []); rw [List.append_nil]
  | p :: r, acc, h, hl => by
    have hp := h p List.mem_cons_self
    rw [List.length_cons] at hl
    rw [m_u_law_pack_l1]
    dsimp only
    rw [Res.need_pos (by show acc.length + 3 ≤ 16777216; omega), Res.bind_ok, Res.need_pos (by rw [List.length_append]; show acc.length + 3 + p.length ≤ 16777216; omega), Res.bind_ok]
    have := lpack_ok r (acc ++ hd3 (p.length : Int) ++ p) (fun q hq => h q (List.mem_cons_of_mem _ hq)) (by rw [List.length_append, List.length_append]; show acc.length + 3 + p.length + _ ≤ _; omega)
    show m_u_law_pack_l1 m_u_law_pack_k2 r (acc ++ hd3 (p.length : Int) ++ p) = _
    rw [this]
    show _ = Res.ok (acc ++ (hd3 (p.length : Int) ++ p ++ pk r))
    rw [List.append_assoc, List.append_assoc, List.append_assoc]
theorem parts_nice (ps : List (List Int)) : nice 2 (toD ps) := nice_lst (n := 1) fun d hd => by
  obtain ⟨p, _, rfl⟩ := List.mem_map.mp hd
  exact nice_lst (n := 0) fun d hd => by
    obtain ⟨i, _, rfl⟩ := List.mem_map.mp hd
    exact nice_int 0 i
theorem k4_ok {ps : List (List Int)} (h : ∀ p ∈ ps, p.length ≤ 5000) (hl : ps.length ≤ 100) : m_law_k4 ps = .ok true := by
  unfold m_law_k4
  rw [Res.bind_ok, Res.need_pos (by omega), compL_map (g := fun (x : List Int) => x) (fun _ _ => rfl) (fun _ _ => rfl), List.map_id', Res.bind_ok, pack_ok h hl]
  unfold m_u_law_pack
  simp only [Res.bind_ok]
  rw [lpack_ok ps [] h (by show 0 + _ ≤ _; omega), List.nil_append]
  simp only [Res.bind_ok]
  rw [islist_ok, Res.bind_ok, cond_true, Res.need_pos ⟨nice_okq (parts_nice ps) (by decide), nice_okq (parts_nice ps) (by decide)⟩, nice_eq (parts_nice ps)]
theorem l3_ok (ns : Ro Int) : ∀ (ks : List Int) (ps : List (List Int)), (∀ k ∈ ks, 0 ≤ k) → (∀ p ∈ ps, p.length ≤ 5000) → ps.length + ks.length ≤ 100 → m_law_l3 ns m_law_k4 ks ps = .ok true
  | [], ps, _, h, hl => by rw [m_law_l3]; exact k4_ok h (by simpa using hl)
  | k :: r, ps, hk, h, hl => by
    obtain ⟨c, d⟩ := cell_ex ns (show (0 : Int) ≤ 25 + k by have := hk k List.mem_cons_self; omega)
    obtain ⟨n, hn⟩ := Int.eq_ofNat_of_zero_le (show 0 ≤ (c.natAbs : Int) % 300 by omega)
    obtain ⟨ds, eb, _, ld⟩ := nby_ok ((c.natAbs : Int) / 300) (s := n) (by omega)
    rw [List.length_cons] at hl
    rw [m_law_l3]
    dsimp only
    rw [d]
    simp only [Res.bind_ok]
    rw [hn, eb]
    simp only [Res.bind_ok]
    rw [Res.need_pos (by omega)]
    refine l3_ok ns r _ (fun z hz => hk z (List.mem_cons_of_mem _ hz)) (fun p hp => ?_) (by rw [List.length_append, List.length_singleton]; omega)
    rcases List.mem_append.mp hp with hp | hp
    · exact h p hp
    · cases List.mem_singleton.mp hp; omega
theorem l2_step (k2 : Unit → Res Bool) (k : Int) (hk : k = 0 ∨ k = 1 ∨ k = 2 ∨ k = 3 ∨ k = 4 ∨ k = 5 ∨ k = 6 ∨ k = 7) (r : List Int) : m_law_l2 k2 (k :: r) () = m_law_l2 k2 r () := by
  have key : ∀ d, m_u_law_other k = .ok d → Pn 3 d → entryB d = false → m_law_l2 k2 (k :: r) () = m_law_l2 k2 r () := fun d e p f => by
    rw [m_law_l2]
    dsimp only
    rw [e]
    simp only [Res.bind_ok]
    rw [(entry_ok p).1, f]
    rfl
  obtain ⟨d, e, p⟩ := other_ex (c := k)
  refine key d e p ?_
  unfold m_u_law_other at e
  rcases hk with rfl | rfl | rfl | rfl | rfl | rfl | rfl | rfl
  all_goals
    first
    | (have q := (idx_nat (j := 0) rfl).symm.trans e; cases q; rfl)
    | (have q := (idx_nat (j := 1) rfl).symm.trans e; cases q; rfl)
    | (have q := (idx_nat (j := 2) rfl).symm.trans e; cases q; rfl)
    | (have q := (idx_nat (j := 3) rfl).symm.trans e; cases q; rfl)
    | (have q := (idx_nat (j := 4) rfl).symm.trans e; cases q; rfl)
    | (have q := (idx_nat (j := 5) rfl).symm.trans e; cases q; rfl)
    | (have q := (idx_nat (j := 6) rfl).symm.trans e; cases q; rfl)
    | (have q := (idx_nat (j := 7) rfl).symm.trans e; cases q; rfl)
theorem l1_step (ns : Ro Int) (k1 : Unit → Res Bool) {x : Int} (x0 : 0 ≤ x) (r : List Int) : m_law_l1 ns k1 (x :: r) () = m_law_l1 ns k1 r () := by
  obtain ⟨v, e, p⟩ := value_ex ns x0
  rw [m_law_l1]
  dsimp only
  rw [e, Res.bind_ok, (entry_ok p).1, Res.bind_ok, Res.need_pos (by rfl), (entry_ok p).2]
  cases entryB v <;> rfl
theorem law_true (ns : Ro Int) (_ : ns.xs.length ≤ 63) (_ : ∀ i ∈ ns.xs, Builtin.Int.intBits i ≤ 1048576) : m_law ns = .ok true := by
  obtain ⟨c, d⟩ := cell_ex ns (show (0 : Int) ≤ 24 by decide)
  unfold m_law
  rw [Res.need_pos ⟨by decide, by decide⟩, Res.bind_ok, show pyRange 0 6 = [0, 1, 2, 3, 4, 5] from rfl]
  rw [l1_step ns _ (by decide), l1_step ns _ (by decide), l1_step ns _ (by decide), l1_step ns _ (by decide), l1_step ns _ (by decide), l1_step ns _ (by decide), m_law_l1]
  unfold m_law_k6
  rw [Res.need_pos ⟨by decide, by decide⟩, Res.bind_ok, show pyRange 0 8 = [0, 1, 2, 3, 4, 5, 6, 7] from rfl]
  rw [l2_step _ _ (by decide), l2_step _ _ (by decide), l2_step _ _ (by decide), l2_step _ _ (by decide), l2_step _ _ (by decide), l2_step _ _ (by decide), l2_step _ _ (by decide), l2_step _ _ (by decide), m_law_l2]
  unfold m_law_k5
  rw [Res.bind_ok, d]
  simp only [Res.bind_ok]
  rw [Res.need_pos ⟨by omega, by omega⟩, Res.bind_ok]
  refine l3_ok ns _ _ (fun k hk => pyRange_nonneg hk) (fun _ h => nomatch h) ?_
  rw [pyRange_len]
  show 0 + _ ≤ 100
  omega
end Mi
open PySem PySem.W PySem.Calls PyProof.Rows
theorem PySem.Challenge.cw_curveseal_k65_entries_holds : PySem.Challenge.rw_curveseal_k65_entries.Holds := by
  w_on; o_law
  refine Mi.head_pieces (r := OpenLaw.row PySem.Challenge.rw_curveseal_k65_entries) (q := view (OpenLaw.row PySem.Challenge.rw_curveseal_k65_entries).prog [42]) (H := Mi.hk) (ob := Mi.ob) (N := 20000000) (k := Mi.fuelQ) (x := Mi.S_x) (s' := Mi.S_f) (loose := (["is_whole", "to_little", "to_big", "is_bytes", "ascii_codes", "is_entry", "_is_body", "_is_byte_tuple", "_is_text", "pack", "_law_cell", "_law_twice", "_law_bytes", "_law_integer", "_law_is_list", "_law_text", "_law_data", "_law_rights", "_law_body", "_law_other", "_law_value", "_law_is_text", "_law_is_data", "_law_is_body", "_law_due"] : List Str) ++ (["_law_pack", "CurveError", "OutOfRange", "Malformed", "PERCENT", "STATE", "ADMIT", "REPLACE", "WITHDRAW", "RIGHTS", "LONGEST_TEXT", "LONGEST_DATA", "LONGEST_SIGNATURE"] : List Str)) (d := HandSHeadRun.topDef (OpenLaw.row PySem.Challenge.rw_curveseal_k65_entries).prog 42) (kwd := []) Mi.ob_eq (by kernel_rfl) Mi.runw_ Mi.lk1_ Mi.lk2_ Mi.lk3_ (by kernel_rfl) (by kernel_rfl) (by kernel_rfl) (by rfl) (by first | assumption | decide +kernel) (by decide +kernel) ⟨rfl, rfl, rfl, rfl, rfl, by decide +kernel⟩ ?hw ?hc
  case hw => w_witness2
  case hc =>
    refine Mi.walk_end (l := PySem.Challenge.rw_curveseal_k65_entries) (n := 63) (k := 6) (x := "script") (m := Mi.m_law) rfl (by decide) (by kernel_rfl) ⟨rfl, by decide, by decide⟩ ?F (fun ns h1 h2 => Mi.law_true ⟨ns⟩ h1 h2)
    intro w mg fa h Y G hmg0
    obtain ⟨K, KX, c⟩ := Y
    have hmg : mg ("law" : PySem.Str) = some (.ref fa) := by
      have e : (HandSHeadRun.topDef (OpenLaw.row PySem.Challenge.rw_curveseal_k65_entries).prog 42).name = ("law" : PySem.Str) := by kernel_rfl
      rw [← e]
      exact hmg0
    have T := Mi.facts_of KX G c
    have ea := hmg.symm.trans T.g_law
    cases ea
    obtain ⟨fd, FL⟩ := T.d_law
    have b := L2.FunD.bindsA (ps := ["script"]) FL fun _ _ _ _ _ _ us hl => match us, hl with | [_], _ => rfl
    exact ⟨K, fd, KX, fun s u => b s [u] rfl, fun base _ _ => Mi.ok_law T FL⟩
