import PyProof.Rows.All
import Wide.All
import OpenK.AllK
import Wide.FinOn
import HandS.Base
import HandS.Call
import HandS.List
import HandS.Comp
import HandS.Ends
import HandS.Exc
import HandS.ExcOwn
import HandS.TryOnly
import HandS.ExcIs
import HandS.IsInst
import HandS.FStr
import HandS.RaiseMore
import HandS.Words
import HandS.WordsList
import HandS.WordsExc
import HandS.WideBits
import HandS.Iter
import HandS.Text
import HandS.Evl
import HandS.Head0
import HandS.Head1
import HandS.Head2
import HandS.HeadEnd
import HandS.HeadHook1
import HandS.HeadHook2
import HandS.HeadHook4
import HandS.EndBits
import HandS.Style
import KE.KSuper
import HandS.More
import HandS.Head3
import Wide.Once
import HandS.TryMany
import HandS.Rev
import HandS.RevTup
import PyProof.ListNew
import HandS.Defaults
import HandS.CallSlots
import HandS.MakeKwOnly
import KE.DatumOrd
import HandS.Conv
import HandS.Dict
import KE.KMathG
import HandS.Struct
import HandS.Zip
import KE.GoesMore
import KE.GoesRaise
import HandS.TupMul
import PySem.Challenge.RW_curveseal_k70_good_paths
set_option Elab.async false
set_option linter.all false
set_option maxRecDepth 100000
set_option autoImplicit false
set_option maxHeartbeats 4000000
set_option maxHeartbeats 1000000
namespace Mi
open PySem PySem.Spec L2
open Evl (Ex)

/-! ### data -/
inductive D where
  | non | bl (b : Bool) | int (i : Int) | str (s : Str) | ty (n : String)
  | tup (xs : List D) | lst (xs : List D) | obj (c : Str) (ks : List Str) (ds : List D) | ro (xs : List D) | dct (ks : List Str) (ds : List D)

class ToD (α : Type) where
  d : α → D
abbrev toD {α : Type} [ToD α] (x : α) : D := ToD.d x
instance : ToD D := ⟨fun x => x⟩
instance : ToD Int := ⟨D.int⟩
instance : ToD Bool := ⟨D.bl⟩
instance : ToD Unit := ⟨fun _ => .non⟩
instance : ToD Str := ⟨D.str⟩
instance {α : Type} [ToD α] : ToD (List α) := ⟨fun xs => .lst (xs.map ToD.d)⟩
instance {α : Type} [ToD α] : ToD (Option α) := ⟨fun o => match o with | none => .non | some x => ToD.d x⟩
structure T1 (α : Type) where
  a : α
structure T2 (α β : Type) where
  a : α
  b : β
structure T3 (α β γ : Type) where
  a : α
  b : β
  c : γ
structure T4 (α β γ δ : Type) where
  a : α
  b : β
  c : γ
  e : δ
structure Ro (α : Type) where
  xs : List α
structure Tu (α : Type) where
  xs : List α
instance {α : Type} [ToD α] : ToD (T1 α) := ⟨fun x => .tup [ToD.d x.a]⟩
instance {α β : Type} [ToD α] [ToD β] : ToD (T2 α β) := ⟨fun x => .tup [ToD.d x.a, ToD.d x.b]⟩
instance {α β γ : Type} [ToD α] [ToD β] [ToD γ] : ToD (T3 α β γ) := ⟨fun x => .tup [ToD.d x.a, ToD.d x.b, ToD.d x.c]⟩
instance {α β γ δ : Type} [ToD α] [ToD β] [ToD γ] [ToD δ] : ToD (T4 α β γ δ) := ⟨fun x => .tup [ToD.d x.a, ToD.d x.b, ToD.d x.c, ToD.d x.e]⟩
instance {α : Type} [ToD α] : ToD (Ro α) := ⟨fun x => .ro (x.xs.map ToD.d)⟩
instance {α : Type} [ToD α] : ToD (Tu α) := ⟨fun x => .tup (x.xs.map ToD.d)⟩

mutual
def Rep (K : PySem.W.Frag) (F : Hp) : D → V → Prop
  | .non, v => v = .non
  | .bl b, v => v = .bl b
  | .int i, v => v = .int i
  | .str s, v => v = .str s
  | .ty n, v => v = .ty n
  | .tup ds, v => ∃ a vs, v = .ref a ∧ SqT K F a vs ∧ Reps K F ds vs
  | .lst ds, v => ∃ a vs, v = .ref a ∧ F a = some (.lst vs) ∧ Reps K F ds vs
  | .obj c ks ds, v => ∃ a dx vs, v = .ref a ∧ F a = some (.ins (He.ga K c) dx (ks.zip vs)) ∧ ks.length = vs.length ∧ Reps K F ds vs
  | .ro ds, v => ∃ a vs, v = .ref a ∧ SqL K F a vs ∧ Reps K F ds vs
  | .dct ks ds, v => ∃ a vs, v = .ref a ∧ F a = some (.dK ((ks.map Sum.inr).zip vs)) ∧ ks.length = vs.length ∧ Reps K F ds vs ∧ ks.Nodup
def Reps (K : PySem.W.Frag) (F : Hp) : List D → List V → Prop
  | [], vs => vs = []
  | d :: ds, vs => ∃ v r, vs = v :: r ∧ Rep K F d v ∧ Reps K F ds r
end

theorem sq_ex {K : PySem.W.Frag} {F H : Hp} {a : Addr} {xs : List V} (e : Ex F H) (h : F a = some (.lst xs)) : SqL K H a xs := Or.inl (Or.inl (e _ _ h))
mutual
theorem Rep.mono {K : PySem.W.Frag} {F F' : Hp} (e : Ex F F') : ∀ (d : D) (v : V), Rep K F d v → Rep K F' d v
  | .non, v, h => h
  | .bl b, v, h => h
  | .int i, v, h => h
  | .str s, v, h => h
  | .ty n, v, h => h
  | .tup ds, v, h => by
    obtain ⟨a, vs, h1, h2, h3⟩ := h
    exact ⟨a, vs, h1, Evl.ex_t e h2, Reps.mono e ds vs h3⟩
  | .lst ds, v, h => by
    obtain ⟨a, vs, h1, h2, h3⟩ := h
    exact ⟨a, vs, h1, e _ _ h2, Reps.mono e ds vs h3⟩
  | .obj c ks ds, v, h => by
    obtain ⟨a, dx, vs, h1, h2, h3, h4⟩ := h
    exact ⟨a, dx, vs, h1, e _ _ h2, h3, Reps.mono e ds vs h4⟩
  | .ro ds, v, h => by
    obtain ⟨a, vs, h1, h2, h3⟩ := h
    exact ⟨a, vs, h1, Evl.ex_l e h2, Reps.mono e ds vs h3⟩
  | .dct ks ds, v, h => by
    obtain ⟨a, vs, h1, h2, h3, h4, h5⟩ := h
    exact ⟨a, vs, h1, e _ _ h2, h3, Reps.mono e ds vs h4, h5⟩
theorem Reps.mono {K : PySem.W.Frag} {F F' : Hp} (e : Ex F F') : ∀ (ds : List D) (vs : List V), Reps K F ds vs → Reps K F' ds vs
  | [], vs, h => h
  | d :: ds, vs, h => by
    obtain ⟨v, r, h1, h2, h3⟩ := h
    exact ⟨v, r, h1, Rep.mono e d v h2, Reps.mono e ds r h3⟩
end
section
variable {K : PySem.W.Frag} {F F' H H' H1 : Hp}
theorem Reps.length : ∀ {ds : List D} {vs : List V}, Reps K F ds vs → ds.length = vs.length
  | [], vs, h => by rw [show vs = [] from h]; rfl
  | d :: ds, vs, h => by
    obtain ⟨v, r, rfl, _, h3⟩ := h
    simp [Reps.length h3]
theorem Reps.get : ∀ {ds : List D} {vs : List V} {i : Nat} {e : D}, Reps K F ds vs → ds[i]? = some e → ∃ v, vs[i]? = some v ∧ Rep K F e v
  | [], vs, i, e, h, q => by simp at q
  | d :: ds, vs, 0, e, h, q => by
    obtain ⟨v, r, rfl, h2, h3⟩ := h
    simp at q; subst q
    exact ⟨v, rfl, h2⟩
  | d :: ds, vs, i + 1, e, h, q => by
    obtain ⟨v, r, rfl, h2, h3⟩ := h
    simp at q
    obtain ⟨w, a, b⟩ := Reps.get h3 q
    exact ⟨w, by simpa using a, b⟩
theorem Reps.append : ∀ {ds es : List D} {vs ws : List V}, Reps K F ds vs → Reps K F es ws → Reps K F (ds ++ es) (vs ++ ws)
  | [], es, vs, ws, h, q => by rw [show vs = [] from h]; exact q
  | d :: ds, es, vs, ws, h, q => by
    obtain ⟨v, r, rfl, h2, h3⟩ := h
    exact ⟨v, r ++ ws, rfl, h2, Reps.append h3 q⟩
theorem Reps.one {e : D} {v : V} (h : Rep K F e v) : Reps K F [e] [v] := ⟨v, [], rfl, h, rfl⟩
theorem Reps.set : ∀ {ds : List D} {vs : List V} (i : Nat) {e : D} {v : V}, Reps K F ds vs → Rep K F e v → Reps K F (ds.set i e) (vs.set i v)
  | [], vs, i, e, v, h, q => by rw [show vs = [] from h]; exact rfl
  | d :: ds, vs, 0, e, v, h, q => by
    obtain ⟨w, r, rfl, h2, h3⟩ := h
    exact ⟨v, r, rfl, q, h3⟩
  | d :: ds, vs, i + 1, e, v, h, q => by
    obtain ⟨w, r, rfl, h2, h3⟩ := h
    exact ⟨w, r.set i v, rfl, h2, Reps.set i h3 q⟩
theorem Reps.drop : ∀ {ds : List D} {vs : List V} (i : Nat), Reps K F ds vs → Reps K F (ds.drop i) (vs.drop i)
  | [], vs, i, h => by rw [show vs = [] from h]; simp [Reps]
  | d :: ds, vs, 0, h => h
  | d :: ds, vs, i + 1, h => by
    obtain ⟨w, r, rfl, h2, h3⟩ := h
    exact Reps.drop i h3
theorem Reps.take : ∀ {ds : List D} {vs : List V} (i : Nat), Reps K F ds vs → Reps K F (ds.take i) (vs.take i)
  | [], vs, i, h => by rw [show vs = [] from h]; simp [Reps]
  | d :: ds, vs, 0, h => by simp [Reps]
  | d :: ds, vs, i + 1, h => by
    obtain ⟨w, r, rfl, h2, h3⟩ := h
    exact ⟨w, r.take i, rfl, h2, Reps.take i h3⟩
theorem Reps.dropLast {ds : List D} {vs : List V} (h : Reps K F ds vs) : Reps K F ds.dropLast vs.dropLast := by
  rw [List.dropLast_eq_take, List.dropLast_eq_take, h.length]
  exact Reps.take _ h
theorem Reps.reverse : ∀ {ds : List D} {vs : List V}, Reps K F ds vs → Reps K F ds.reverse vs.reverse
  | [], vs, h => by rw [show vs = [] from h]; simp [Reps]
  | d :: ds, vs, h => by
    obtain ⟨w, r, rfl, h2, h3⟩ := h
    rw [List.reverse_cons, List.reverse_cons]
    exact Reps.append (Reps.reverse h3) (Reps.one h2)
theorem Reps.ints : ∀ {ns : List Int} {vs : List V}, Reps K F (ns.map D.int) vs → vs = ns.map V.int
  | [], vs, h => h
  | n :: ns, vs, h => by
    obtain ⟨w, r, rfl, h2, h3⟩ := h
    rw [show w = V.int n from h2, Reps.ints h3]; rfl
theorem Reps.of_ints : ∀ (ns : List Int), Reps K F (ns.map D.int) (ns.map V.int)
  | [] => rfl
  | n :: ns => ⟨_, _, rfl, rfl, Reps.of_ints ns⟩
theorem Reps.bls : ∀ {ns : List Bool} {vs : List V}, Reps K F (ns.map D.bl) vs → vs = ns.map V.bl
  | [], vs, h => h
  | n :: ns, vs, h => by
    obtain ⟨w, r, rfl, h2, h3⟩ := h
    rw [show w = V.bl n from h2, Reps.bls h3]; rfl
theorem Reps.strs : ∀ {ns : List Str} {vs : List V}, Reps K F (ns.map D.str) vs → vs = ns.map V.str
  | [], vs, h => h
  | n :: ns, vs, h => by
    obtain ⟨w, r, rfl, h2, h3⟩ := h
    rw [show w = V.str n from h2, Reps.strs h3]; rfl

/-! ### how the heap goes on -/
structure Adv (F H F' H' : Hp) : Prop where
  f : Ex F F'
  h : Ex H H'
  in_ : Ex F' H'
  out : ∀ p, F p = none → H p ≠ none → F' p = none
theorem Adv.refl (e : Ex F H) : Adv F H F H := ⟨Ex.refl F, Ex.refl H, e, fun _ h _ => h⟩
theorem Adv.trans {F1 H1 F2 H2 F3 H3 : Hp} (a : Adv F1 H1 F2 H2) (b : Adv F2 H2 F3 H3) : Adv F1 H1 F3 H3 :=
  ⟨a.f.trans b.f, a.h.trans b.h, b.in_, fun p h1 h2 => b.out p (a.out p h1 h2) fun z => h2 (Evl.fresh_back a.h z)⟩
theorem none_of_ex (e : Ex F H) {p : Addr} (h : H p = none) : F p = none := Evl.fresh_back e h
theorem Adv.new {p : Addr} {o : HO} (e : Ex F H) (h : H p = none) : Adv F H (upd F p o) (upd H p o) := by
  refine ⟨Ex.new (none_of_ex e h), Ex.new h, fun a u q => ?_, fun q h1 h2 => ?_⟩
  · by_cases z : a = p
    · subst z; rw [upd_same] at q ⊢; exact q
    · rw [upd_ne z] at q ⊢; exact e a u q
  · have z : q ≠ p := fun z => h2 (by rw [z]; exact h)
    rw [upd_ne z]; exact h1
/-- a new object, not frozen -/
theorem Adv.newO {p : Addr} {o : HO} (e : Ex F H) (h : H p = none) : Adv F H F (upd H p o) :=
  ⟨Ex.refl F, Ex.new h, fun a u q => (Ex.new h) a u (e a u q), fun _ h1 _ => h1⟩
end

/-! ### what a def gives -/
inductive Res (α : Type) where
  | ok (x : α) | exc (c : Str) | stuck
namespace Res
def bind {α β : Type} : Res α → (α → Res β) → Res β
  | .ok x, f => f x
  | .exc c, _ => .exc c
  | .stuck, _ => .stuck
theorem bind_ok {α β : Type} (x : α) (f : α → Res β) : (Res.ok x).bind f = f x := rfl
theorem bind_pure {α : Type} (m : Res α) : m.bind Res.ok = m := by cases m <;> rfl
/-- a condition that must hold -/
@[irreducible] noncomputable def need {α : Type} (p : Prop) (m : Res α) : Res α := @ite _ p (Classical.propDecidable p) m .stuck
theorem need_pos {α : Type} {p : Prop} {m : Res α} (h : p) : need p m = m := by unfold need; exact if_pos h
theorem need_neg {α : Type} {p : Prop} {m : Res α} (h : ¬ p) : need p m = .stuck := by unfold need; exact if_neg h
def map {α β : Type} (f : α → β) (m : Res α) : Res β := m.bind fun x => .ok (f x)
end Res

/-! ### slots -/
inductive Sk where
  | im (e : D) | ow (xs : List D) | raw (v : V) | oi (p : Option Addr) (c : Str) (ks : List Str) (ds : List D)
/-- what only this frame knows -/
def Sk.own : Sk → Bool
  | .ow _ => true
  | .oi _ _ _ _ => true
  | _ => false
abbrev En := List (Option Sk)
def SkOk (K : PySem.W.Frag) (H0 F H : Hp) : Sk → V → Prop
  | .im e, v => Rep K F e v
  | .ow xs, v => ∃ p vs, v = .ref p ∧ H0 p = none ∧ F p = none ∧ H p = some (.lst vs) ∧ Reps K F xs vs
  | .raw w, v => v = w
  | .oi pp c ks ds, v => ∃ p dx vs, v = .ref p ∧ H0 p = none ∧ F p = none ∧ H p = some (.ins (He.ga K c) dx (ks.zip vs)) ∧ ks.length = vs.length ∧ Reps K F ds vs ∧ ∀ a, pp = some a → p = a
structure Sl (K : PySem.W.Frag) (F0 H0 F H : Hp) (σ : L2.St) (env : En) : Prop where
  adv : Adv F0 H0 F H
  slot : ∀ (i : Nat) (sk : Sk), env[i]? = some (some sk) → ∃ v, σ[i]? = some (some v) ∧ SkOk K H0 F H sk v
  dis : ∀ (i j : Nat) (sk sk' : Sk) (p : Addr), i ≠ j → env[i]? = some (some sk) → env[j]? = some (some sk') → sk.own = true → sk'.own = true → σ[i]? = some (some (.ref p)) → σ[j]? ≠ some (some (.ref p))
  len : σ.length = env.length
section
variable {K : PySem.W.Frag} {F0 H0 F H F' H' : Hp} {σ : L2.St} {env : En}
theorem Sl.ex (S : Sl K F0 H0 F H σ env) : Ex F H := S.adv.in_
theorem SkOk.adv {sk : Sk} {v : V} (a : Adv F H F' H') (h : SkOk K H0 F H sk v) : SkOk K H0 F' H' sk v := by
  cases sk with
  | im e => exact Rep.mono a.f _ _ h
  | ow xs =>
    obtain ⟨p, vs, e1, e2, e3, e4, e5⟩ := h
    exact ⟨p, vs, e1, e2, a.out p e3 (by rw [e4]; simp), a.h _ _ e4, Reps.mono a.f _ _ e5⟩
  | raw w => exact h
  | oi pp c ks ds =>
    obtain ⟨p, dx, vs, e1, e2, e3, e4, e5, e6, e7⟩ := h
    exact ⟨p, dx, vs, e1, e2, a.out p e3 (by rw [e4]; simp), a.h _ _ e4, e5, Reps.mono a.f _ _ e6, e7⟩
theorem SkOk.at {sk : Sk} {v : V} (ho : sk.own = true) (h : SkOk K H0 F H sk v) : ∃ p o, v = .ref p ∧ H0 p = none ∧ F p = none ∧ H p = some o := by
  cases sk with
  | im e => cases ho
  | raw w => cases ho
  | ow xs =>
    obtain ⟨p, vs, e1, e2, e3, e4, e5⟩ := h
    exact ⟨p, _, e1, e2, e3, e4⟩
  | oi pp c ks ds =>
    obtain ⟨p, dx, vs, e1, e2, e3, e4, e5, e6, e7⟩ := h
    exact ⟨p, _, e1, e2, e3, e4⟩
theorem SkOk.updH {sk : Sk} {v : V} {p : Addr} {o : HO} (hn : sk.own = true → v ≠ .ref p) (h : SkOk K H0 F H sk v) : SkOk K H0 F (upd H p o) sk v := by
  cases sk with
  | im e => exact h
  | raw w => exact h
  | ow xs =>
    obtain ⟨q, vs, e1, e2, e3, e4, e5⟩ := h
    have hne : q ≠ p := fun z => hn rfl (by rw [e1, z])
    exact ⟨q, vs, e1, e2, e3, by rw [upd_ne hne]; exact e4, e5⟩
  | oi pp c ks ds =>
    obtain ⟨q, dx, vs, e1, e2, e3, e4, e5, e6, e7⟩ := h
    have hne : q ≠ p := fun z => hn rfl (by rw [e1, z])
    exact ⟨q, dx, vs, e1, e2, e3, by rw [upd_ne hne]; exact e4, e5, e6, e7⟩
theorem SkOk.updF {sk : Sk} {v : V} {p : Addr} {o : HO} (hf : F p = none) (hn : sk.own = true → v ≠ .ref p) (h : SkOk K H0 F H sk v) : SkOk K H0 (upd F p o) H sk v := by
  have ad : Ex F (upd F p o) := Ex.new hf
  cases sk with
  | im e => exact Rep.mono ad _ _ h
  | raw w => exact h
  | ow xs =>
    obtain ⟨q, vs, e1, e2, e3, e4, e5⟩ := h
    have hne : q ≠ p := fun z => hn rfl (by rw [e1, z])
    exact ⟨q, vs, e1, e2, by rw [upd_ne hne]; exact e3, e4, Reps.mono ad _ _ e5⟩
  | oi pp c ks ds =>
    obtain ⟨q, dx, vs, e1, e2, e3, e4, e5, e6, e7⟩ := h
    have hne : q ≠ p := fun z => hn rfl (by rw [e1, z])
    exact ⟨q, dx, vs, e1, e2, by rw [upd_ne hne]; exact e3, e4, e5, Reps.mono ad _ _ e6, e7⟩
theorem Sl.step (S : Sl K F0 H0 F H σ env) (a : Adv F H F' H') : Sl K F0 H0 F' H' σ env := by
  refine ⟨S.adv.trans a, fun i sk e => ?_, S.dis, S.len⟩
  obtain ⟨v, h1, h2⟩ := S.slot i sk e
  exact ⟨v, h1, h2.adv a⟩
theorem set_get {α : Type} {l : List α} {i j : Nat} {x y : α} (h : (l.set i x)[j]? = some y) : (i = j ∧ x = y) ∨ (i ≠ j ∧ l[j]? = some y) := by
  rw [List.getElem?_set] at h
  by_cases e : i = j
  · rw [if_pos e] at h
    split at h
    · exact .inl ⟨e, Option.some.inj h⟩
    · cases h
  · rw [if_neg e] at h
    exact .inr ⟨e, h⟩
theorem set_len {α : Type} {l : List α} {i : Nat} {x y : α} (h : (l.set i x)[i]? = some y) : i < l.length := by
  have h := (List.getElem?_eq_some_iff.mp h).1
  rwa [List.length_set] at h
theorem Sl.setIm (S : Sl K F0 H0 F H σ env) {i : Nat} {e : D} {v : V} (r : Rep K F e v) : Sl K F0 H0 F H (σ.set i (some v)) (env.set i (some (.im e))) := by
  refine ⟨S.adv, fun j sk q => ?_, fun j k sk sk' p hjk e1 e2 o1 o2 h1 => ?_, by rw [List.length_set, List.length_set]; exact S.len⟩
  · rcases set_get q with ⟨rfl, z⟩ | ⟨z, q⟩
    · cases z
      refine ⟨v, ?_, r⟩
      have hi : i < env.length := set_len q
      rw [List.getElem?_set_self (by rw [S.len]; exact hi)]
    · obtain ⟨w, h1, h2⟩ := S.slot j sk q
      exact ⟨w, by rw [List.getElem?_set_ne z]; exact h1, h2⟩
  · rcases set_get e1 with ⟨_, z⟩ | ⟨z1, e1⟩
    · cases z; cases o1
    rcases set_get e2 with ⟨_, z⟩ | ⟨z2, e2⟩
    · cases z; cases o2
    rw [List.getElem?_set_ne z1] at h1
    rw [List.getElem?_set_ne z2]
    exact S.dis j k sk sk' p hjk e1 e2 o1 o2 h1
/-- a new owned object -/
theorem Sl.setOwn (S : Sl K F0 H0 F H σ env) {i : Nat} {p : Addr} {sk : Sk} (hs : SkOk K H0 F H sk (.ref p)) (hn : ∀ (j : Nat) (sk' : Sk), env[j]? = some (some sk') → sk'.own = true → σ[j]? ≠ some (some (V.ref p))) :
    Sl K F0 H0 F H (σ.set i (some (.ref p))) (env.set i (some sk)) := by
  refine ⟨S.adv, fun j sk q => ?_, fun j k sk1 sk2 p' hjk e1 e2 o1 o2 h1 => ?_, by rw [List.length_set, List.length_set]; exact S.len⟩
  · rcases set_get q with ⟨rfl, z⟩ | ⟨z, q⟩
    · cases z
      refine ⟨_, ?_, hs⟩
      have hi : i < env.length := set_len q
      rw [List.getElem?_set_self (by rw [S.len]; exact hi)]
    · obtain ⟨w, h1, h2⟩ := S.slot j sk q
      exact ⟨w, by rw [List.getElem?_set_ne z]; exact h1, h2⟩
  · rcases set_get e1 with ⟨z0, z⟩ | ⟨z1, e1⟩
    · rcases set_get e2 with ⟨z2, _⟩ | ⟨z2, e2⟩
      · exact absurd (z0.symm.trans z2) hjk
      · subst z0
        rw [List.getElem?_set_ne z2]
        have hi : i < σ.length := set_len h1
        rw [List.getElem?_set_self hi] at h1
        cases h1
        exact hn k sk2 e2 o2
    · rw [List.getElem?_set_ne z1] at h1
      rcases set_get e2 with ⟨z2, z⟩ | ⟨z2, e2⟩
      · subst z2
        intro q
        have hi : i < σ.length := set_len q
        rw [List.getElem?_set_self hi] at q
        cases q
        exact hn j sk1 e1 o1 h1
      · rw [List.getElem?_set_ne z2]
        exact S.dis j k sk1 sk2 p' hjk e1 e2 o1 o2 h1
theorem Sl.setOw (S : Sl K F0 H0 F H σ env) {i : Nat} {p : Addr} {xs : List D} {vs : List V} (h0 : H0 p = none) (hf : F p = none) (hp : H p = some (.lst vs)) (hn : ∀ (j : Nat) (sk' : Sk), env[j]? = some (some sk') → sk'.own = true → σ[j]? ≠ some (some (V.ref p))) (r : Reps K F xs vs) :
    Sl K F0 H0 F H (σ.set i (some (.ref p))) (env.set i (some (.ow xs))) := S.setOwn ⟨p, vs, rfl, h0, hf, hp, r⟩ hn
/-- an owned object changes -/
theorem Sl.chgO (S : Sl K F0 H0 F H σ env) {i : Nat} {p : Addr} {sk sk' : Sk} {o : HO} (e : env[i]? = some (some sk)) (ho : sk.own = true) (hs : σ[i]? = some (some (.ref p))) (hp : F p = none) (h0 : H0 p = none) (hk : SkOk K H0 F (upd H p o) sk' (.ref p)) :
    Sl K F0 H0 F (upd H p o) σ (env.set i (some sk')) := by
  refine ⟨⟨S.adv.f, fun a u q => ?_, fun a u q => ?_, S.adv.out⟩, fun j sk q => ?_, fun j k sk1 sk2 p' hjk e1 e2 o1 o2 h1 => ?_, by rw [List.length_set]; exact S.len⟩
  · rw [upd_ne (ne_of_none q h0)]; exact S.adv.h a u q
  · rw [upd_ne (ne_of_none q hp)]; exact S.adv.in_ a u q
  · rcases set_get q with ⟨rfl, z⟩ | ⟨z, q⟩
    · cases z
      exact ⟨_, hs, hk⟩
    · obtain ⟨w, h1, h2⟩ := S.slot j sk q
      exact ⟨w, h1, h2.updH fun o2 zz => S.dis i j _ _ p z e q ho o2 hs (by rw [h1, zz])⟩
  · have own : ∀ {j : Nat} {s : Sk}, (env.set i (some sk'))[j]? = some (some s) → s.own = true → ∃ s', env[j]? = some (some s') ∧ s'.own = true := by
      intro j s q o
      rcases set_get q with ⟨rfl, _⟩ | ⟨_, q⟩
      · exact ⟨_, e, ho⟩
      · exact ⟨_, q, o⟩
    obtain ⟨_, q1, r1⟩ := own e1 o1
    obtain ⟨_, q2, r2⟩ := own e2 o2
    exact S.dis j k _ _ p' hjk q1 q2 r1 r2 h1
theorem Sl.chg (S : Sl K F0 H0 F H σ env) {i : Nat} {p : Addr} {xs ys : List D} {ws : List V} (e : env[i]? = some (some (.ow xs))) (hs : σ[i]? = some (some (.ref p))) (hp : F p = none) (h0 : H0 p = none) (r : Reps K F ys ws) :
    Sl K F0 H0 F (upd H p (.lst ws)) σ (env.set i (some (.ow ys))) := S.chgO e rfl hs hp h0 ⟨p, ws, rfl, h0, hp, upd_same, r⟩
/-- an owned object is frozen -/
theorem Sl.freezeO (S : Sl K F0 H0 F H σ env) {i : Nat} {sk : Sk} {d : D} (e : env[i]? = some (some sk)) (ho : sk.own = true) (hd : ∀ p o, SkOk K H0 F H sk (.ref p) → H p = some o → F p = none → Rep K (upd F p o) d (.ref p)) : ∃ F', Ex F F' ∧ Sl K F0 H0 F' H σ (env.set i (some (.im d))) := by
  obtain ⟨v, hs, hk⟩ := S.slot i _ e
  obtain ⟨p, o, rfl, h0, hf, hp⟩ := hk.at ho
  have ad : Ex F (upd F p o) := Ex.new hf
  have inn : Ex (upd F p o) H := fun a u q => by
    by_cases z : a = p
    · subst z; rw [upd_same] at q; cases q; exact hp
    · rw [upd_ne z] at q; exact S.ex a u q
  refine ⟨upd F p o, ad, ⟨⟨S.adv.f.trans ad, S.adv.h, inn, fun a h1 h2 => ?_⟩, fun j sk q => ?_, fun j k sk1 sk2 p' hjk e1 e2 o1 o2 h1 => ?_, by rw [List.length_set]; exact S.len⟩⟩
  · have z : a ≠ p := fun z => h2 (by rw [z]; exact h0)
    rw [upd_ne z]; exact S.adv.out a h1 h2
  · rcases set_get q with ⟨rfl, z⟩ | ⟨z, q⟩
    · cases z
      exact ⟨_, hs, hd p o hk hp hf⟩
    · obtain ⟨w, h1, h2⟩ := S.slot j sk q
      exact ⟨w, h1, h2.updF hf fun o2 zz => S.dis i j _ _ p z e q ho o2 hs (by rw [h1, zz])⟩
  · have own : ∀ {j : Nat} {s : Sk}, (env.set i (some (.im d)))[j]? = some (some s) → s.own = true → env[j]? = some (some s) := by
      intro j s q o
      rcases set_get q with ⟨rfl, z⟩ | ⟨_, q⟩
      · cases z; cases o
      · exact q
    exact S.dis j k _ _ p' hjk (own e1 o1) (own e2 o2) o1 o2 h1
theorem Sl.freeze (S : Sl K F0 H0 F H σ env) {i : Nat} {xs : List D} (e : env[i]? = some (some (.ow xs))) : ∃ F', Ex F F' ∧ Sl K F0 H0 F' H σ (env.set i (some (.im (.lst xs)))) :=
  S.freezeO e rfl fun p o h hp hf => by
    obtain ⟨q, vs, e1, _, _, e4, e5⟩ := h
    cases e1
    rw [hp] at e4; cases e4
    exact ⟨_, vs, rfl, upd_same, Reps.mono (Ex.new hf) _ _ e5⟩
end
end Mi
set_option maxHeartbeats 1000000
namespace Mi
open PySem PySem.Spec L2
open Evl (Ex)

class ToDs (β : Type) where
  ds : β → List D
instance : ToDs Unit := ⟨fun _ => []⟩
instance {α β : Type} [ToD α] [ToDs β] : ToDs (α × β) := ⟨fun p => ToD.d p.1 :: ToDs.ds p.2⟩

/-! ### what follows a value -/
section
variable (K : PySem.W.Frag) (W : WX) (F H : Hp) (σ : L2.St)
def KE {α : Type} [ToD α] (Q : VK) : Res α → Prop
  | .ok x => ∀ v F' H', Adv F H F' H' → Rep K F' (toD x) v → Q v H'
  | .exc c => ∀ F' H', Adv F H F' H' → W (.ref (He.ga K c)) none σ H'
  | .stuck => False
def KA {β : Type} [ToDs β] (Q : List V → Hp → Prop) : Res β → Prop
  | .ok x => ∀ vs F' H', Adv F H F' H' → Reps K F' (ToDs.ds x) vs → Q vs H'
  | .exc c => ∀ F' H', Adv F H F' H' → W (.ref (He.ga K c)) none σ H'
  | .stuck => False
def KT (Q : Bool → Hp → Prop) : Res Bool → Prop
  | .ok b => ∀ F' H', Adv F H F' H' → Q b H'
  | .exc c => ∀ F' H', Adv F H F' H' → W (.ref (He.ga K c)) none σ H'
  | .stuck => False
def KN {α : Type} [ToD α] (Q : VK) : Res (List α) → Prop
  | .ok xs => ∀ p vs F' H', Adv F H F' H' → H p = none → F' p = none → H' p = some (.lst vs) → Reps K F' (xs.map toD) vs → Q (.ref p) H'
  | .exc c => ∀ F' H', Adv F H F' H' → W (.ref (He.ga K c)) none σ H'
  | .stuck => False
end
def EvX (K : PySem.W.Frag) (W : WX) (env : En) (te : TE) {α : Type} [ToD α] (m : Res α) : Prop :=
  ∀ F0 H0 F H σ Q, Sl K F0 H0 F H σ env → KE K W F H σ Q m → te σ H Q
def EvA (K : PySem.W.Frag) (W : WX) (env : En) (ta : TA) {β : Type} [ToDs β] (m : Res β) : Prop :=
  ∀ F0 H0 F H σ Q, Sl K F0 H0 F H σ env → KA K W F H σ Q m → ta σ H Q
def EvT (K : PySem.W.Frag) (W : WX) (env : En) (tt : TT) (m : Res Bool) : Prop :=
  ∀ F0 H0 F H σ Q, Sl K F0 H0 F H σ env → KT K W F H σ Q m → tt σ H Q
def EvN (K : PySem.W.Frag) (W : WX) (env : En) (te : TE) {α : Type} [ToD α] (m : Res (List α)) : Prop :=
  ∀ F0 H0 F H σ Q, Sl K F0 H0 F H σ env → KN K W F H σ Q m → te σ H Q

section
variable {K : PySem.W.Frag} {W : WX} {F H F' H' : Hp} {σ : L2.St} {env : En} {α β γ τ : Type} [ToD α] [ToD β] [ToD γ] [ToD τ] {ta tb te tc : TE} {tt tu : TT} {r : R2}

/-- from what follows a whole to what follows its first part -/
theorem KE.cut {Q : VK} {Q1 : VK} {m : Res α} {f : α → Res β} (ex : Ex F H) (h : KE K W F H σ Q (m.bind f))
    (k : ∀ x v F' H', m = .ok x → Adv F H F' H' → Rep K F' (toD x) v → KE K W F' H' σ Q (f x) → Q1 v H') : KE K W F H σ Q1 m := by
  cases m with
  | ok x =>
    intro v F1 H1 a r
    refine k x v F1 H1 rfl a r ?_
    have h : KE K W F H σ Q (f x) := h
    revert h
    generalize f x = y
    intro h
    cases y with
    | ok y => exact fun v F2 H2 b q => h v F2 H2 (a.trans b) q
    | exc c => exact fun F2 H2 b => h F2 H2 (a.trans b)
    | stuck => exact h.elim
  | exc c => exact h
  | stuck => exact h.elim
theorem KE.adv {Q : VK} {m : Res β} (a : Adv F H F' H') (h : KE K W F H σ Q m) : KE K W F' H' σ Q m := by
  cases m with
  | ok y => exact fun v F2 H2 b q => h v F2 H2 (a.trans b) q
  | exc c => exact fun F2 H2 b => h F2 H2 (a.trans b)
  | stuck => exact h.elim
theorem KT.adv {Q : Bool → Hp → Prop} {m : Res Bool} (a : Adv F H F' H') (h : KT K W F H σ Q m) : KT K W F' H' σ Q m := by
  cases m with
  | ok y => exact fun F2 H2 b => h F2 H2 (a.trans b)
  | exc c => exact fun F2 H2 b => h F2 H2 (a.trans b)
  | stuck => exact h.elim
theorem KA.adv {δ : Type} [ToDs δ] {Q : List V → Hp → Prop} {m : Res δ} (a : Adv F H F' H') (h : KA K W F H σ Q m) : KA K W F' H' σ Q m := by
  cases m with
  | ok y => exact fun v F2 H2 b q => h v F2 H2 (a.trans b) q
  | exc c => exact fun F2 H2 b => h F2 H2 (a.trans b)
  | stuck => exact h.elim

/-! ### names and constants -/
theorem ev_var {i : Nat} {x : α} (h : env[i]? = some (some (.im (toD x)))) : EvX K W env (tVar i) (.ok x) := fun F0 H0 F H σ Q S k => by
  obtain ⟨v, e, q⟩ := S.slot i _ h
  exact ⟨v, e, k v F H (Adv.refl S.ex) q⟩
theorem ev_int {i : Int} : EvX K W env (tC (.int i)) (.ok i) := fun F0 H0 F H σ Q S k => k _ F H (Adv.refl S.ex) rfl
theorem ev_bl {b : Bool} : EvX K W env (tC (.bl b)) (.ok b) := fun F0 H0 F H σ Q S k => k _ F H (Adv.refl S.ex) rfl
theorem ev_str {x : Str} : EvX K W env (tC (.str x)) (.ok x) := fun F0 H0 F H σ Q S k => k _ F H (Adv.refl S.ex) rfl
theorem ev_non : EvX K W env (tC .non) (.ok ()) := fun F0 H0 F H σ Q S k => k _ F H (Adv.refl S.ex) rfl
theorem ev_noneO : EvX K W env (tC .non) (.ok (none : Option α)) := fun F0 H0 F H σ Q S k => k _ F H (Adv.refl S.ex) rfl
/-- the same value in another type -/
theorem ev_as {m : Res α} {m' : Res β} (h : EvX K W env te m) (f : α → β) (e : ∀ x, toD (f x) = toD x) (em : m.bind (fun x => .ok (f x)) = m') : EvX K W env te m' := fun F0 H0 F H σ Q S k => by
  refine h F0 H0 F H σ Q S ?_
  subst em
  cases m with
  | ok x => intro v F' H' a q; exact k v F' H' a (by rw [e]; exact q)
  | exc c => exact k
  | stuck => exact k.elim

/-! ### operators -/
def OpX (K : PySem.W.Frag) (r : R2) (f : α → β → Res γ) : Prop := ∀ (F H : Hp) (x : α) (y : β) (v u : V) (Q : VK), Ex F H → Rep K F (toD x) v → Rep K F (toD y) u →
  KE K (fun _ _ _ _ => False) F H [] Q (f x y) → r v u H Q
/-- operators let nothing out -/
def Mild (f : α → β → Res γ) : Prop := ∀ x y c, f x y ≠ .exc c
theorem KE.mild {Q : VK} {m : Res γ} (hm : ∀ c, m ≠ .exc c) (h : KE K W F H σ Q m) : KE K (fun _ _ _ _ => False) F H [] Q m := by
  cases m with
  | ok x => exact h
  | exc c => exact absurd rfl (hm c)
  | stuck => exact h.elim
theorem ev_op {m1 : Res α} {m2 : Res β} {f : α → β → Res γ} (ho : OpX K r f) (hm : Mild f) (ha : EvX K W env ta m1) (hb : EvX K W env tb m2) :
    EvX K W env (tOp r ta tb) (m1.bind fun x => m2.bind fun y => f x y) := fun F0 H0 F H σ Q S k => by
  refine ha F0 H0 F H σ _ S (KE.cut S.ex k fun x v F1 H1 e1 a1 r1 k1 => ?_)
  refine hb F0 H0 F1 H1 σ _ (S.step a1) (KE.cut a1.in_ k1 fun y u F2 H2 e2 a2 r2 k2 => ?_)
  exact ho F2 H2 x y v u Q a2.in_ (Rep.mono a2.f _ _ r1) r2 (k2.mild (hm x y))
theorem mild_ok {g : α → β → γ} : Mild (fun x y => Res.ok (g x y)) := fun _ _ _ h => nomatch h
theorem mild_need {p : α → β → Prop} {g : α → β → γ} : Mild (fun x y => Res.need (p x y) (.ok (g x y))) := fun x y c h => by
  by_cases q : p x y
  · have h : Res.need (p x y) (.ok (g x y)) = .exc c := h
    rw [Res.need_pos q] at h; cases h
  · have h : Res.need (p x y) (.ok (g x y)) = .exc c := h
    rw [Res.need_neg q] at h; cases h
theorem opx_I0 {g : Int → Int → Int} : OpX K (rI0 fun i j => .int (g i j)) (fun i j => .ok (g i j)) := fun F H x y v u Q e h1 h2 k =>
  ⟨x, y, h1, h2, k _ F H (Adv.refl e) rfl⟩
theorem opx_B0 {g : Int → Int → Bool} : OpX K (rI0 fun i j => .bl (g i j)) (fun i j => .ok (g i j)) := fun F H x y v u Q e h1 h2 k =>
  ⟨x, y, h1, h2, k _ F H (Adv.refl e) rfl⟩
theorem opx_I {C : Int → Int → Prop} {g : Int → Int → Int} : OpX K (rI C fun i j => .int (g i j)) (fun i j => .need (C i j) (.ok (g i j))) := fun F H x y v u Q e h1 h2 k => by
  by_cases c : C x y
  · have k : KE K (fun _ _ _ _ => False) F H [] Q (Res.need (C x y) (.ok (g x y))) := k
    rw [Res.need_pos c] at k
    exact ⟨x, y, h1, h2, c, k _ F H (Adv.refl e) rfl⟩
  · have k : KE K (fun _ _ _ _ => False) F H [] Q (Res.need (C x y) (.ok (g x y))) := k
    rw [Res.need_neg c] at k
    exact k.elim
/-- the same where the condition is known -/
theorem ev_opI {m1 m2 : Res Int} {C : Int → Int → Prop} {g : Int → Int → Int} (hc : ∀ x y, m1 = .ok x → m2 = .ok y → C x y) (ha : EvX K W env ta m1) (hb : EvX K W env tb m2) :
    EvX K W env (tOp (rI C fun i j => .int (g i j)) ta tb) (m1.bind fun x => m2.bind fun y => .ok (g x y)) := fun F0 H0 F H σ Q S k => by
  refine ha F0 H0 F H σ _ S (KE.cut S.ex k fun x v F1 H1 e1 a1 r1 k1 => ?_)
  refine hb F0 H0 F1 H1 σ _ (S.step a1) (KE.cut a1.in_ k1 fun y u F2 H2 e2 a2 r2 k2 => ?_)
  exact ⟨x, y, r1, r2, hc x y e1 e2, k2 _ F2 H2 (Adv.refl a2.in_) rfl⟩
theorem ev_un {m1 : Res Int} {g : Int → Int} (ha : EvX K W env ta m1) : EvX K W env (tUn (rU fun i => .int (g i)) ta) (m1.bind fun x => .ok (g x)) := fun F0 H0 F H σ Q S k => by
  refine ha F0 H0 F H σ _ S (KE.cut S.ex k fun x v F1 H1 e1 a1 r1 k1 => ?_)
  exact ⟨x, r1, k1 _ F1 H1 (Adv.refl a1.in_) rfl⟩
/-- == of two ints, two bools, two texts -/
theorem opx_eqI : OpX K rEq (fun (i j : Int) => .ok (decide (i = j))) := fun F H x y v u Q e h1 h2 k => by
  cases (show v = V.int x from h1); cases (show u = V.int y from h2)
  refine ⟨rfl, ?_⟩
  rw [show decide (V.int x = V.int y) = decide (x = y) by rw [dec_int]; rfl]
  exact k _ F H (Adv.refl e) rfl
theorem opx_neB : OpX K rNe (fun (i j : Bool) => .ok (!(i == j))) := fun F H x y v u Q e h1 h2 k => by
  cases (show v = V.bl x from h1); cases (show u = V.bl y from h2)
  refine ⟨rfl, ?_⟩
  rw [dec_bl]
  exact k _ F H (Adv.refl e) rfl
theorem opx_eqS : OpX K rEq (fun (i j : Str) => .ok (i == j)) := fun F H x y v u Q e h1 h2 k => by
  cases (show v = V.str x from h1); cases (show u = V.str y from h2)
  refine ⟨rfl, ?_⟩
  rw [dec_str]
  exact k _ F H (Adv.refl e) rfl
theorem opx_neS : OpX K rNe (fun (i j : Str) => .ok (!(i == j))) := fun F H x y v u Q e h1 h2 k => by
  cases (show v = V.str x from h1); cases (show u = V.str y from h2)
  refine ⟨rfl, ?_⟩
  rw [dec_str]
  exact k _ F H (Adv.refl e) rfl
def D.isNon : D → Bool
  | .non => true
  | _ => false
theorem rep_isNon : ∀ {x : D} {v : V}, Rep K F x v → decide (v = V.non) = x.isNon
  | .non, v, h => by rw [show v = V.non from h]; rfl
  | .bl b, v, h => by rw [show v = V.bl b from h]; rfl
  | .int b, v, h => by rw [show v = V.int b from h]; rfl
  | .str b, v, h => by rw [show v = V.str b from h]; rfl
  | .ty b, v, h => by rw [show v = V.ty b from h]; rfl
  | .tup ds, v, h => by obtain ⟨a, vs, rfl, _⟩ := h; rfl
  | .lst ds, v, h => by obtain ⟨a, vs, rfl, _⟩ := h; rfl
  | .obj c ks ds, v, h => by obtain ⟨a, dx, vs, rfl, _⟩ := h; rfl
  | .ro ds, v, h => by obtain ⟨a, vs, rfl, _⟩ := h; rfl
  | .dct ks ds, v, h => by obtain ⟨a, vs, rfl, _⟩ := h; rfl
theorem opx_isN : OpX K (fun x y H Q => y = .non ∧ Q (.bl (decide (x = .non))) H) (fun (x : α) (_ : Unit) => .ok (toD x).isNon) := fun F H x y v u Q e h1 h2 k =>
  ⟨h2, by rw [rep_isNon h1]; exact k _ F H (Adv.refl e) rfl⟩
/-! ### == of data -/
mutual
def D.py : D → PyData
  | .non => .none
  | .bl b => .bool b
  | .int i => .int i
  | .str s => .str s
  | .ty _ => .none
  | .tup xs => .tuple (pyL xs)
  | .lst xs => .list (pyL xs)
  | .obj _ _ _ => .none
  | .ro _ => .none
  | .dct _ _ => .none
def pyL : List D → List PyData
  | [] => []
  | x :: xs => D.py x :: pyL xs
end
mutual
/-- no objects, no classes within -/
def D.flat : D → Bool
  | .ty _ => false
  | .obj _ _ _ => false
  | .ro _ => false
  | .dct _ _ => false
  | .tup xs => flatL xs
  | .lst xs => flatL xs
  | _ => true
def flatL : List D → Bool
  | [] => true
  | x :: xs => D.flat x && flatL xs
end
mutual
theorem dp_of : ∀ {x : D} {v : V}, Rep K F x v → x.flat = true → Dp K F v x.py
  | .non, v, h, _ => by rw [show v = V.non from h]; exact .non
  | .bl b, v, h, _ => by rw [show v = V.bl b from h]; exact .bl b
  | .int b, v, h, _ => by rw [show v = V.int b from h]; exact .int b
  | .str b, v, h, _ => by rw [show v = V.str b from h]; exact .str b
  | .ty b, v, h, q => by cases q
  | .tup ds, v, h, q => by obtain ⟨a, vs, rfl, h2, h3⟩ := h; exact .tup h2 (dps_of h3 q)
  | .lst ds, v, h, q => by obtain ⟨a, vs, rfl, h2, h3⟩ := h; exact .lst (Evl.sq_of h2) (dps_of h3 q)
  | .obj c ks ds, v, h, q => by cases q
  | .ro ds, v, h, q => by cases q
  | .dct ks ds, v, h, q => by cases q
theorem dps_of : ∀ {xs : List D} {vs : List V}, Reps K F xs vs → flatL xs = true → DpAll K F vs (pyL xs)
  | [], vs, h, _ => by rw [show vs = [] from h]; exact .nil
  | x :: xs, vs, h, q => by
    obtain ⟨v, r, rfl, h2, h3⟩ := h
    have q2 := Bool.and_eq_true_iff.mp (show (D.flat x && flatL xs) = true from q)
    exact .cons (dp_of h2 q2.1) (dps_of h3 q2.2)
end
mutual
theorem Dp.mono {e : Ex F F'} : ∀ {v : V} {x : PyData}, Dp K F v x → Dp K F' v x
  | _, _, .non => .non
  | _, _, .bl b => .bl b
  | _, _, .int b => .int b
  | _, _, .str b => .str b
  | _, _, .lst h1 h2 => .lst (Evl.ex_l e h1) (Dps.mono (e := e) h2)
  | _, _, .tup h1 h2 => .tup (Evl.ex_t e h1) (Dps.mono (e := e) h2)
theorem Dps.mono {e : Ex F F'} : ∀ {v : List V} {x : List PyData}, DpAll K F v x → DpAll K F' v x
  | _, _, .nil => .nil
  | _, _, .cons h1 h2 => .cons (Dp.mono (e := e) h1) (Dps.mono (e := e) h2)
end
/-- data that == may be asked of -/
def D.okq (x : D) : Bool := x.flat && SeqAt.shaped x.py
def pyEq (x y : D) : Bool := PyData.eqv x.py y.py
theorem opx_eqD : OpX K (rEqD K) (fun (x : α) (y : β) => .need ((toD x).okq = true ∧ (toD y).okq = true) (.ok (pyEq (toD x) (toD y)))) := fun F H x y v u Q e h1 h2 k => by
  dsimp only at k
  by_cases c : (toD x).okq = true ∧ (toD y).okq = true
  · rw [Res.need_pos c] at k
    obtain ⟨c1, c2⟩ := c
    obtain ⟨a1, a2⟩ := Bool.and_eq_true_iff.mp c1
    obtain ⟨b1, b2⟩ := Bool.and_eq_true_iff.mp c2
    exact ⟨_, _, Dp.mono (e := e) (dp_of h1 a1), Dp.mono (e := e) (dp_of h2 b1), a2, b2, k _ F H (Adv.refl e) rfl⟩
  · rw [Res.need_neg c] at k
    exact k.elim
theorem opx_neD : OpX K (rNeD K) (fun (x : α) (y : β) => .need ((toD x).okq = true ∧ (toD y).okq = true) (.ok (!pyEq (toD x) (toD y)))) := fun F H x y v u Q e h1 h2 k => by
  dsimp only at k
  by_cases c : (toD x).okq = true ∧ (toD y).okq = true
  · rw [Res.need_pos c] at k
    obtain ⟨c1, c2⟩ := c
    obtain ⟨a1, a2⟩ := Bool.and_eq_true_iff.mp c1
    obtain ⟨b1, b2⟩ := Bool.and_eq_true_iff.mp c2
    exact ⟨_, _, Dp.mono (e := e) (dp_of h1 a1), Dp.mono (e := e) (dp_of h2 b1), a2, b2, k _ F H (Adv.refl e) rfl⟩
  · rw [Res.need_neg c] at k
    exact k.elim

/-! ### an item -/
def idx {α : Type} (xs : List α) (i : Int) : Res α := match atI xs i with
  | some x => .ok x
  | none => .stuck
theorem idx_mild {α : Type} (xs : List α) (i : Int) (c : Str) : idx xs i ≠ .exc c := by
  unfold idx; split <;> intro h <;> cases h
theorem atI_map {α β : Type} (f : α → β) (xs : List α) (i : Int) : atI (xs.map f) i = (atI xs i).map f := by
  unfold atI
  rw [List.length_map]
  cases ixN xs.length i with
  | none => rfl
  | some j => simp
theorem Reps.at {xs : List D} {vs : List V} {i : Int} {x : D} (h : Reps K F xs vs) (e : atI xs i = some x) : ∃ v, atI vs i = some v ∧ Rep K F x v := by
  unfold atI at e ⊢
  rw [← h.length]
  cases q : ixN xs.length i with
  | none => rw [q] at e; cases e
  | some j => rw [q] at e; exact Reps.get h e
theorem opx_ixL : OpX K (rIxL K) (fun (xs : List α) (i : Int) => idx xs i) := fun F H xs i v u Q e h1 h2 k => by
  obtain ⟨a, vs, rfl, hl, hr⟩ := h1
  cases (show u = V.int i from h2)
  dsimp only [idx] at k
  cases q : atI xs i with
  | none => rw [q] at k; exact k.elim
  | some x =>
    rw [q] at k
    obtain ⟨w, hw, rw_⟩ := Reps.at (i := i) hr (x := toD x) (by rw [atI_map, q]; rfl)
    exact ⟨a, vs, i, w, rfl, rfl, sq_ex e hl, hw, k _ F H (Adv.refl e) rw_⟩
theorem opx_ixT : OpX K (rIxT K) (fun (xs : Tu α) (i : Int) => idx xs.xs i) := fun F H xs i v u Q e h1 h2 k => by
  obtain ⟨a, vs, rfl, hl, hr⟩ := h1
  cases (show u = V.int i from h2)
  dsimp only [idx] at k
  cases q : atI xs.xs i with
  | none => rw [q] at k; exact k.elim
  | some x =>
    rw [q] at k
    obtain ⟨w, hw, rw_⟩ := Reps.at (i := i) hr (x := toD x) (by rw [atI_map, q]; rfl)
    exact ⟨a, vs, i, w, rfl, rfl, Evl.ex_t e hl, hw, k _ F H (Adv.refl e) rw_⟩
/-- t[i], i written, t a tuple whose parts have types of their own -/
theorem ev_ixTC {m : Res α} {i : Int} {f : α → β} (ha : EvX K W env ta m) (hf : ∀ x, ∃ ds, toD x = .tup ds ∧ atI ds i = some (toD (f x))) :
    EvX K W env (tOp (rIxT K) ta (tC (.int i))) (m.bind fun x => .ok (f x)) := fun F0 H0 F H σ Q S k => by
  refine ha F0 H0 F H σ _ S (KE.cut S.ex k fun x v F1 H1 e1 a1 r1 k1 => ?_)
  obtain ⟨ds, e, q⟩ := hf x
  rw [e] at r1
  obtain ⟨a, vs, rfl, hl, hr⟩ := r1
  obtain ⟨w, hw, rw_⟩ := Reps.at (i := i) hr q
  exact ⟨a, vs, i, w, rfl, rfl, Evl.ex_t a1.in_ hl, hw, k1 _ F1 H1 (Adv.refl a1.in_) rw_⟩
/-- xs[i], xs the owned list of slot j -/
theorem ev_ixO {j : Nat} {xs : List α} {m : Res Int} (h : env[j]? = some (some (.ow (xs.map toD)))) (hb : EvX K W env tb m) : EvX K W env (tOp (rIxL K) (tVar j) tb) (m.bind fun i => idx xs i) := fun F0 H0 F H σ Q S k => by
  obtain ⟨v, e, p, vs, rfl, h0, hf, hp, hr⟩ := S.slot j _ h
  refine ⟨_, e, ?_⟩
  refine hb F0 H0 F H σ _ S (KE.cut S.ex k fun i u F1 H1 e1 a1 r1 k1 => ?_)
  cases (show u = V.int i from r1)
  unfold idx at k1
  cases q : atI xs i with
  | none => rw [q] at k1; exact k1.elim
  | some x =>
    rw [q] at k1
    obtain ⟨w, hw, rw_⟩ := Reps.at (i := i) hr (x := toD x) (by rw [atI_map, q]; rfl)
    exact ⟨p, vs, i, w, rfl, rfl, .inl (.inl (a1.h _ _ hp)), hw, k1 _ F1 H1 (Adv.refl a1.in_) (Rep.mono a1.f _ _ rw_)⟩

/-! ### tests, and, or, not -/
theorem et_test {m : Res Bool} (ha : EvX K W env te m) : EvT K W env (tTest te) m := fun F0 H0 F H σ Q S k => by
  refine ha F0 H0 F H σ _ S ?_
  cases m with
  | ok b => exact fun v F' H' a q => ⟨b, q, k F' H' a⟩
  | exc c => exact k
  | stuck => exact k.elim
theorem et_B {m : Res Bool} (ha : EvX K W env te m) : EvT K W env (tB te) m := et_test ha
theorem et_not {m : Res Bool} (ha : EvT K W env tt m) : EvT K W env (tNot tt) (m.bind fun b => .ok (!b)) := fun F0 H0 F H σ Q S k => by
  refine ha F0 H0 F H σ _ S ?_
  cases m with
  | ok b => exact k
  | exc c => exact k
  | stuck => exact k.elim
theorem et_and {m1 m2 : Res Bool} (ha : EvT K W env tt m1) (hb : EvT K W env tu m2) : EvT K W env (tAnd tt tu) (m1.bind fun b => cond b m2 (.ok false)) := fun F0 H0 F H σ Q S k => by
  refine ha F0 H0 F H σ _ S ?_
  cases m1 with
  | ok b =>
    intro F' H' a
    cases b with
    | true =>
      have k : KT K W F H σ Q m2 := k
      show tu σ H' Q
      exact hb F0 H0 F' H' σ Q (S.step a) (k.adv a)
    | false => exact k F' H' a
  | exc c => exact k
  | stuck => exact k.elim
theorem et_or {m1 m2 : Res Bool} (ha : EvT K W env tt m1) (hb : EvT K W env tu m2) : EvT K W env (tOr tt tu) (m1.bind fun b => cond b (.ok true) m2) := fun F0 H0 F H σ Q S k => by
  refine ha F0 H0 F H σ _ S ?_
  cases m1 with
  | ok b =>
    intro F' H' a
    cases b with
    | false =>
      have k : KT K W F H σ Q m2 := k
      show tu σ H' Q
      exact hb F0 H0 F' H' σ Q (S.step a) (k.adv a)
    | true => exact k F' H' a
  | exc c => exact k
  | stuck => exact k.elim
theorem ev_andV {m1 m2 : Res Bool} (ha : EvX K W env ta m1) (hb : EvX K W env tb m2) : EvX K W env (tAndV ta tb) (m1.bind fun b => cond b m2 (.ok false)) := fun F0 H0 F H σ Q S k => by
  refine ha F0 H0 F H σ _ S ?_
  cases m1 with
  | ok b =>
    intro v F' H' a r
    refine ⟨b, r, ?_⟩
    cases b with
    | true =>
      have k : KE K W F H σ Q m2 := k
      exact hb F0 H0 F' H' σ Q (S.step a) (k.adv a)
    | false => exact k _ F' H' a rfl
  | exc c => exact k
  | stuck => exact k.elim
theorem ev_orV {m1 m2 : Res Bool} (ha : EvX K W env ta m1) (hb : EvX K W env tb m2) : EvX K W env (tOrV ta tb) (m1.bind fun b => cond b (.ok true) m2) := fun F0 H0 F H σ Q S k => by
  refine ha F0 H0 F H σ _ S ?_
  cases m1 with
  | ok b =>
    intro v F' H' a r
    refine ⟨b, r, ?_⟩
    cases b with
    | false =>
      have k : KE K W F H σ Q m2 := k
      exact hb F0 H0 F' H' σ Q (S.step a) (k.adv a)
    | true => exact k _ F' H' a rfl
  | exc c => exact k
  | stuck => exact k.elim
theorem ev_notV {m : Res Bool} (ha : EvX K W env ta m) : EvX K W env (tNotV ta) (m.bind fun b => .ok (!b)) := fun F0 H0 F H σ Q S k => by
  refine ha F0 H0 F H σ _ S ?_
  cases m with
  | ok b => exact fun v F' H' a r => ⟨b, r, k _ F' H' a rfl⟩
  | exc c => exact k
  | stuck => exact k.elim
theorem ev_if {m : Res Bool} {m1 m2 : Res α} (hc : EvT K W env tt m) (ha : EvX K W env ta m1) (hb : EvX K W env tb m2) : EvX K W env (tIf tt ta tb) (m.bind fun b => cond b m1 m2) := fun F0 H0 F H σ Q S k => by
  refine hc F0 H0 F H σ _ S ?_
  cases m with
  | ok b =>
    intro F' H' a
    cases b with
    | true =>
      have k : KE K W F H σ Q m1 := k
      show ta σ H' Q
      exact ha F0 H0 F' H' σ Q (S.step a) (k.adv a)
    | false =>
      have k : KE K W F H σ Q m2 := k
      show tb σ H' Q
      exact hb F0 H0 F' H' σ Q (S.step a) (k.adv a)
  | exc c => exact k
  | stuck => exact k.elim
/-! ### arguments, displays, calls -/
theorem ea_nil : EvA K W env tNil (.ok ()) := fun F0 H0 F H σ Q S k => k [] F H (Adv.refl S.ex) rfl
theorem ea_cons {δ : Type} [ToDs δ] {t : TA} {m1 : Res α} {m2 : Res δ} (ha : EvX K W env te m1) (hb : EvA K W env t m2) : EvA K W env (tCons te t) (m1.bind fun x => m2.bind fun y => .ok (x, y)) := fun F0 H0 F H σ Q S k => by
  refine ha F0 H0 F H σ _ S ?_
  cases m1 with
  | ok x =>
    intro v F1 H1 a1 r1
    have k1 : KA K W F H σ Q (m2.bind fun y => .ok (x, y)) := k
    refine hb F0 H0 F1 H1 σ _ (S.step a1) ?_
    cases m2 with
    | ok y =>
      intro vs F2 H2 a2 r2
      exact k1 (v :: vs) F2 H2 (a1.trans a2) ⟨v, vs, rfl, Rep.mono a2.f _ _ r1, r2⟩
    | exc c => exact fun F2 H2 a2 => k1 F2 H2 (a1.trans a2)
    | stuck => exact k1.elim
  | exc c => exact k
  | stuck => exact k.elim
/-- a tuple that is made; its type by f -/
theorem ev_tup {δ : Type} [ToDs δ] {t : TA} {m : Res δ} {f : δ → α} (ha : EvA K W env t m) (hf : ∀ y : δ, toD (f y) = .tup (ToDs.ds y)) (hn : ∀ y : δ, (ToDs.ds y).length ≤ 100000) : EvX K W env (tTup t) (m.bind fun y => .ok (f y)) := fun F0 H0 F H σ Q S k => by
  refine ha F0 H0 F H σ _ S ?_
  cases m with
  | ok y =>
    intro vs F1 H1 a1 r1
    refine ⟨by rw [← r1.length]; exact Evl.sz_of (hn y), fun p hp => ?_⟩
    have a2 : Adv F1 H1 (upd F1 p (.tup vs)) (upd H1 p (.tup vs)) := Adv.new a1.in_ hp
    refine k _ _ _ (a1.trans a2) ?_
    rw [hf]
    exact ⟨p, vs, rfl, .inl (.inl upd_same), Reps.mono a2.f _ _ r1⟩
  | exc c => exact k
  | stuck => exact k.elim
/-- a list that is made -/
theorem en_lst {δ : Type} [ToDs δ] {t : TA} {m : Res δ} {f : δ → List α} (ha : EvA K W env t m) (hf : ∀ y : δ, (f y).map toD = ToDs.ds y) (hn : ∀ y : δ, (ToDs.ds y).length ≤ 100000) : EvN K W env (tLst t) (m.bind fun y => .ok (f y)) := fun F0 H0 F H σ Q S k => by
  refine ha F0 H0 F H σ _ S ?_
  cases m with
  | ok y =>
    intro vs F1 H1 a1 r1
    refine ⟨by rw [← r1.length]; exact Evl.sz_of (hn y), fun p hp => ?_⟩
    refine k p vs _ _ (a1.trans (Adv.newO a1.in_ hp)) (Evl.fresh_back a1.h hp) (none_of_ex a1.in_ hp) upd_same ?_
    rw [hf]
    exact r1
  | exc c => exact k
  | stuck => exact k.elim
/-- a new list as a value that is not changed later -/
theorem ev_ofN {m : Res (List α)} (h : EvN K W env te m) : EvX K W env te m := fun F0 H0 F H σ Q S k => by
  refine h F0 H0 F H σ Q S ?_
  cases m with
  | ok xs =>
    intro p vs F1 H1 a1 hp hf hh r
    have e : Ex F1 (upd F1 p (.lst vs)) := Ex.new hf
    refine k _ (upd F1 p (.lst vs)) H1 ⟨a1.f.trans e, a1.h, fun a u q => ?_, fun q h1 h2 => ?_⟩ ⟨p, vs, rfl, upd_same, Reps.mono e _ _ r⟩
    · by_cases z : a = p
      · subst z; rw [upd_same] at q; cases q; exact hh
      · rw [upd_ne z] at q; exact a1.in_ a u q
    · have z : q ≠ p := fun z => h2 (by rw [z]; exact hp)
      rw [upd_ne z]; exact a1.out q h1 h2
  | exc c => exact k
  | stuck => exact k.elim
/-- a def's promise, by the function that tells what it gives -/
def spM (K : PySem.W.Frag) {δ : Type} [ToDs δ] (f : δ → Res α) : Sp := fun vs H Q E => ∃ F x, Ex F H ∧ Reps K F (ToDs.ds x) vs ∧ KE K (fun cls d _ H => E cls d H) F H [] Q (f x)
theorem ev_call {δ : Type} [ToDs δ] {t : TA} {m : Res δ} {f : δ → Res α} (ha : EvA K W env t m) : EvX K W env (tCallS (spM K f) (WE W) t) (m.bind f) := fun F0 H0 F H σ Q S k => by
  refine ha F0 H0 F H σ _ S ?_
  cases m with
  | ok y =>
    intro vs F1 H1 a1 r1
    refine ⟨F1, y, a1.in_, r1, ?_⟩
    have k : KE K W F H σ Q (f y) := k
    have k := k.adv a1
    revert k
    generalize f y = z
    intro k
    cases z with
    | ok z => exact k
    | exc c => exact k
    | stuck => exact k.elim
  | exc c => exact k
  | stuck => exact k.elim
namespace Res
def noexc {α : Type} : Res α → Res α
  | .exc _ => .stuck
  | m => m
end Res
/-- a call of a def that lets nothing out there -/
theorem ev_call0 {δ : Type} [ToDs δ] {t : TA} {m : Res δ} {f : δ → Res α} (ha : EvA K W env t m) : EvX K W env (tCall (spM K f) [] E0 t) (m.bind fun y => (f y).noexc) := fun F0 H0 F H σ Q S k => by
  refine ha F0 H0 F H σ _ S ?_
  cases m with
  | ok y =>
    intro vs F1 H1 a1 r1
    refine ⟨F1, y, a1.in_, by rw [List.append_nil]; exact r1, ?_⟩
    have k : KE K W F H σ Q (f y).noexc := k
    have k := k.adv a1
    revert k
    generalize f y = z
    intro k
    cases z with
    | ok z => exact k
    | exc c => exact k.elim
    | stuck => exact k.elim
  | exc c => exact k
  | stuck => exact k.elim
/-- built-in defs by their values -/
def CrX (K : PySem.W.Frag) (r : List V → Hp → VK → Prop) {δ : Type} [ToDs δ] (f : δ → Res α) : Prop := ∀ (F H : Hp) (x : δ) (vs : List V) (Q : VK), Ex F H → Reps K F (ToDs.ds x) vs → KE K (fun _ _ _ _ => False) F H [] Q (f x) → r vs H Q
theorem ev_cb {δ : Type} [ToDs δ] {r : List V → Hp → VK → Prop} {t : TA} {m : Res δ} {f : δ → Res α} (ho : CrX K r f) (hm : ∀ x c, f x ≠ .exc c) (ha : EvA K W env t m) : EvX K W env (tCB r t) (m.bind f) := fun F0 H0 F H σ Q S k => by
  refine ha F0 H0 F H σ _ S ?_
  cases m with
  | ok y =>
    intro vs F1 H1 a1 r1
    have k : KE K W F H σ Q (f y) := k
    exact ho F1 H1 y vs Q a1.in_ r1 ((k.adv a1).mild (hm y))
  | exc c => exact k
  | stuck => exact k.elim
end
end Mi
set_option maxHeartbeats 1000000
namespace Mi
open PySem PySem.Spec L2
open Evl (Ex)

/-! ### statements -/
inductive EnLe : En → En → Prop
  | nil : EnLe [] []
  | same {e : Option Sk} {l m : En} : EnLe l m → EnLe (e :: l) (e :: m)
  | drop {e : Option Sk} {l m : En} : EnLe l m → EnLe (e :: l) (none :: m)
theorem EnLe.refl : ∀ l : En, EnLe l l
  | [] => .nil
  | _ :: l => .same (EnLe.refl l)
theorem EnLe.get : ∀ {l m : En}, EnLe l m → ∀ {i : Nat} {sk : Sk}, m[i]? = some (some sk) → l[i]? = some (some sk)
  | _, _, .nil, i, sk, h => h
  | _, _, .same t, 0, sk, h => h
  | _, _, .same t, i + 1, sk, h => EnLe.get t (by simpa using h)
  | _, _, .drop t, 0, sk, h => by simp at h
  | _, _, .drop t, i + 1, sk, h => EnLe.get t (by simpa using h)
theorem EnLe.len {l m : En} (h : EnLe l m) : l.length = m.length := by
  induction h with
  | nil => rfl
  | same _ ih => simp [ih]
  | drop _ ih => simp [ih]
theorem Sl.weak {K : PySem.W.Frag} {F0 H0 F H : Hp} {σ : L2.St} {env env' : En} (S : Sl K F0 H0 F H σ env) (h : EnLe env env') : Sl K F0 H0 F H σ env' :=
  ⟨S.adv, fun i sk e => S.slot i sk (h.get e), fun i j sk sk' p hij e1 e2 => S.dis i j sk sk' p hij (h.get e1) (h.get e2), S.len.trans h.len⟩
def Blk (K : PySem.W.Frag) (F0 H0 : Hp) {τ : Type} (KP : Res τ → Prop) (T : L2.St → Hp → Prop) (env : En) (m : Res τ) : Prop :=
  ∀ F H σ, Sl K F0 H0 F H σ env → KP m → T σ H
/-- what is asked of a returned value besides: of most types nothing -/
class ToR (τ : Type) where
  fr : PySem.W.Frag → τ → V → Hp → Hp → Hp → Prop
instance (priority := low) dfltR {τ : Type} : ToR τ := ⟨fun _ _ _ _ _ _ => True⟩
class DR (τ : Type) [ToR τ] : Prop where
  tr : ∀ K (x : τ) v H0 F H, ToR.fr K x v H0 F H
instance (priority := low) dfltD {τ : Type} : @DR τ dfltR := @DR.mk τ dfltR fun _ _ _ _ _ _ => trivial
structure Lk (K : PySem.W.Frag) (W : WX) (F0 H0 : Hp) (rt : VK) (PT : En → Prop) {τ : Type} [ToD τ] [ToR τ] (KP : Res τ → Prop) : Prop where
  ok : ∀ x, KP (.ok x) → ∀ v F H, Adv F0 H0 F H → Rep K F (toD x) v → ToR.fr K x v H0 F H → rt v H
  exc : ∀ c F H σ env, KP (.exc c) → PT env → Sl K F0 H0 F H σ env → W (.ref (He.ga K c)) none σ H
  no : ¬ KP .stuck
section
variable {K : PySem.W.Frag} {W : WX} {F0 H0 F H F' H' F1 : Hp} {rt : VK} {PT : En → Prop} {env env' : En} {α β γ τ : Type} [ToD α] [ToD β] [ToD γ] [ToD τ] [ToR τ] {KP : Res τ → Prop} {te ta tb tc : TE} {tt : TT} {Z : Ends} {t u : TS} {T : L2.St → Hp → Prop}
theorem Sl.base {σ : L2.St} (S : Sl K F0 H0 F1 H' σ env) {σ' : L2.St} (S' : Sl K F1 H0 F H σ' env') : Sl K F0 H0 F H σ' env' :=
  ⟨⟨S.adv.f.trans S'.adv.f, S'.adv.h, S'.adv.in_, fun p h1 h2 => S'.adv.out p (S.adv.out p h1 h2) h2⟩, S'.slot, S'.dis, S'.len⟩
theorem Lk.base (L : Lk K W F0 H0 rt PT KP) {σ : L2.St} (S : Sl K F0 H0 F1 H' σ env) : Lk K W F1 H0 rt PT KP :=
  ⟨fun x h v F H a r => L.ok x h v F H ⟨S.adv.f.trans a.f, a.h, a.in_, fun p h1 h2 => a.out p (S.adv.out p h1 h2) h2⟩ r,
   fun c F H σ' env' h p S' => L.exc c F H σ' env' h p (S.base S'), L.no⟩
theorem Blk.base {m : Res τ} (B : Blk K F0 H0 KP T env' m) {σ : L2.St} (S : Sl K F0 H0 F1 H' σ env) : Blk K F1 H0 KP T env' m := fun F H σ' S' h => B F H σ' (S.base S') h
theorem Blk.weak {m : Res τ} (B : Blk K F0 H0 KP T env' m) (h : EnLe env env') : Blk K F0 H0 KP T env m := fun F H σ S k => B F H σ (S.weak h) k

/-- what follows an expression in a block -/
theorem Lk.ke (L : Lk K W F0 H0 rt PT KP) (hT : PT env) {σ : L2.St} (S : Sl K F0 H0 F H σ env) {m : Res α} {f : α → Res τ} (h : KP (m.bind f)) {Q : VK}
    (k : ∀ x v F' H', m = .ok x → Adv F H F' H' → Rep K F' (toD x) v → KP (f x) → Q v H') : KE K W F H σ Q m := by
  cases m with
  | ok x => exact fun v F' H' a r => k x v F' H' rfl a r h
  | exc c => exact fun F' H' a => L.exc c F' H' σ env h hT (S.step a)
  | stuck => exact (L.no h).elim
theorem Lk.kt (L : Lk K W F0 H0 rt PT KP) (hT : PT env) {σ : L2.St} (S : Sl K F0 H0 F H σ env) {m : Res Bool} {f : Bool → Res τ} (h : KP (m.bind f)) {Q : Bool → Hp → Prop}
    (k : ∀ x F' H', m = .ok x → Adv F H F' H' → KP (f x) → Q x H') : KT K W F H σ Q m := by
  cases m with
  | ok x => exact fun F' H' a => k x F' H' rfl a h
  | exc c => exact fun F' H' a => L.exc c F' H' σ env h hT (S.step a)
  | stuck => exact (L.no h).elim
theorem Lk.kn (L : Lk K W F0 H0 rt PT KP) (hT : PT env) {σ : L2.St} (S : Sl K F0 H0 F H σ env) {m : Res (List α)} {f : List α → Res τ} (h : KP (m.bind f)) {Q : VK}
    (k : ∀ xs p vs F' H', m = .ok xs → Adv F H F' H' → H p = none → F' p = none → H' p = some (.lst vs) → Reps K F' (xs.map toD) vs → KP (f xs) → Q (.ref p) H') : KN K W F H σ Q m := by
  cases m with
  | ok x => exact fun p vs F' H' a h1 h2 h3 h4 => k x p vs F' H' rfl a h1 h2 h3 h4 h
  | exc c => exact fun F' H' a => L.exc c F' H' σ env h hT (S.step a)
  | stuck => exact (L.no h).elim

theorem blk_seq {m : Res τ} (h : Blk K F0 H0 KP (t { Z with nx := u Z }) env m) : Blk K F0 H0 KP (tSeq t u Z) env m := h
theorem blk_nil {m : Res τ} (h : Blk K F0 H0 KP Z.nx env m) : Blk K F0 H0 KP (tNext Z) env m := h

theorem Blk.nx {m : Res τ} {T bk ct : L2.St → Hp → Prop} {r : VK} (h : Blk K F0 H0 KP T env m) : Blk K F0 H0 KP (Ends.nx ⟨T, r, bk, ct⟩) env m := h
/-! targets -/
def GX (K : PySem.W.Frag) (g : TG) (x : D) (f : En → En) (ws : List Nat) : Prop := ∀ (F0 H0 F H : Hp) (σ : L2.St) (env : En) (v : V) (T : L2.St → Hp → Prop), Sl K F0 H0 F H σ env → Rep K F x v →
  (∀ σ', Sl K F0 H0 F H σ' (f env) → σ'.length = σ.length → (∀ j, j ∉ ws → σ'[j]? = σ[j]?) → T σ' H) → g v σ H T
def GXs (K : PySem.W.Frag) (g : TGs) (xs : List D) (f : En → En) (ws : List Nat) : Prop := ∀ (F0 H0 F H : Hp) (σ : L2.St) (env : En) (vs : List V) (T : L2.St → Hp → Prop), Sl K F0 H0 F H σ env → Reps K F xs vs →
  (∀ σ', Sl K F0 H0 F H σ' (f env) → σ'.length = σ.length → (∀ j, j ∉ ws → σ'[j]? = σ[j]?) → T σ' H) → g vs σ H T
def stE (i : Nat) (x : D) : En → En := fun env => env.set i (some (.im x))
theorem gx_name {i : Nat} {x : D} : GX K (gName i) x (stE i x) [i] := fun F0 H0 F H σ env v T S r k =>
  k _ (S.setIm r) (by rw [List.length_set]) fun j hj => List.getElem?_set_ne fun e => hj (by rw [e]; exact List.mem_singleton.mpr rfl)
theorem gxs_nil : GXs K gNil [] (fun e => e) [] := fun F0 H0 F H σ env vs T S r k => ⟨r, k σ S rfl fun _ _ => rfl⟩
theorem gxs_cons {g : TG} {gs : TGs} {x : D} {xs : List D} {f1 f2 : En → En} {w1 w2 : List Nat} (h1 : GX K g x f1 w1) (h2 : GXs K gs xs f2 w2) : GXs K (gCons g gs) (x :: xs) (fun e => f2 (f1 e)) (w1 ++ w2) := fun F0 H0 F H σ env vs T S r k => by
  obtain ⟨v, rs, rfl, r1, r2⟩ := r
  refine ⟨v, rs, rfl, h1 F0 H0 F H σ env v _ S r1 fun σ1 S1 l1 o1 => ?_⟩
  refine h2 F0 H0 F H σ1 _ rs T S1 r2 fun σ2 S2 l2 o2 => ?_
  refine k σ2 S2 (l2.trans l1) fun j hj => ?_
  rw [o2 j fun z => hj (List.mem_append_right _ z), o1 j fun z => hj (List.mem_append_left _ z)]
theorem gx_tup {gs : TGs} {n : Nat} {xs : List D} {f : En → En} {ws : List Nat} (h : GXs K gs xs f ws) (hn : xs.length = n) : GX K (gTup K n gs) (.tup xs) f ws := fun F0 H0 F H σ env v T S r k => by
  obtain ⟨a, vs, rfl, h1, h2⟩ := r
  exact ⟨a, vs, rfl, Evl.ex_t S.ex h1, by rw [← h2.length]; exact hn, h F0 H0 F H σ env vs T S h2 k⟩

theorem blk_asg {g : TG} {m : Res α} {f : α → Res τ} {fe : α → En → En} {ws : List Nat} (L : Lk K W F0 H0 rt PT KP) (hT : PT env) (he : EvX K W env te m) (hg : ∀ x, GX K g (toD x) (fe x) ws)
    (k : ∀ x, Blk K F0 H0 KP Z.nx (fe x env) (f x)) : Blk K F0 H0 KP (tAsg te g Z) env (m.bind f) := fun F H σ S h =>
  he F0 H0 F H σ _ S (L.ke hT S h fun x v F1 H1 e1 a1 r1 h1 => hg x F0 H0 F1 H1 σ env v _ (S.step a1) r1 fun σ' S' _ _ => k x F1 H1 σ' S' h1)
theorem blk_set {i : Nat} {m : Res α} {f : α → Res τ} (L : Lk K W F0 H0 rt PT KP) (hT : PT env) (he : EvX K W env te m)
    (k : ∀ x, Blk K F0 H0 KP Z.nx (env.set i (some (.im (toD x)))) (f x)) : Blk K F0 H0 KP (tAsg te (gName i) Z) env (m.bind f) :=
  blk_asg L hT he (fun _ => gx_name) k
/-- x = a new list that is changed later -/
theorem blk_own {i : Nat} {m : Res (List α)} {f : List α → Res τ} (L : Lk K W F0 H0 rt PT KP) (hT : PT env) (he : EvN K W env te m)
    (k : ∀ xs, Blk K F0 H0 KP Z.nx (env.set i (some (.ow (xs.map toD)))) (f xs)) : Blk K F0 H0 KP (tAsg te (gName i) Z) env (m.bind f) := fun F H σ S h =>
  he F0 H0 F H σ _ S (L.kn hT S h fun xs p vs F1 H1 e1 a1 hp hf hh r h1 => by
    have S1 := S.step a1
    refine k xs F1 H1 _ (S1.setOw (Evl.fresh_back S.adv.h hp) hf hh (fun j sk' e ho z => ?_) r) h1
    obtain ⟨v, e2, q⟩ := S.slot j _ e
    obtain ⟨p', o', rfl, _, _, q4⟩ := q.at ho
    rw [e2] at z
    cases z
    rw [hp] at q4; cases q4)
/-- x.append(e), x an owned list -/
theorem blk_app {i : Nat} {xs : List β} {m : Res β} {f : β → Res τ} (L : Lk K W F0 H0 rt PT KP) (hT : PT env) (hx : env[i]? = some (some (.ow (xs.map toD)))) (he : EvX K W env te m)
    (k : ∀ y, Blk K F0 H0 KP Z.nx (env.set i (some (.ow ((xs ++ [y]).map toD)))) (f y)) :
    Blk K F0 H0 KP (tDrop (tBM K "list" rAppend (tVar i) (tCons te tNil)) Z) env (m.bind fun y => .need (xs.length < 16777216) (f y)) := fun F H σ S h => by
  obtain ⟨v, e, p, vs, rfl, h0, hf, hp, hr⟩ := S.slot i _ hx
  refine ⟨_, e, .inl ⟨rfl, _, .inl (.inl hp)⟩, ?_⟩
  refine he F0 H0 F H σ _ S (L.ke hT S h fun y u F1 H1 e1 a1 r1 h1 => ?_)
  by_cases c : xs.length < 16777216
  · rw [Res.need_pos c] at h1
    have hr' := Reps.mono a1.f _ _ hr
    refine ⟨p, vs, u, rfl, rfl, a1.h _ _ hp, by rw [sizeLine_eq, ← hr.length, List.length_map]; exact c, ?_⟩
    refine k y F1 _ σ ((S.step a1).chg hx e (a1.out p hf (by rw [hp]; simp)) h0 ?_) h1
    rw [List.map_append]
    exact Reps.append hr' (Reps.one r1)
  · rw [Res.need_neg c] at h1
    exact (L.no h1).elim
/-- x[i] = e, x an owned list -/
theorem blk_setI {i : Nat} {xs : List β} {m : Res β} {mi : Res Int} {f : List β → Res τ} (L : Lk K W F0 H0 rt PT KP) (hT : PT env) (hx : env[i]? = some (some (.ow (xs.map toD)))) (he : EvX K W env te m) (hi : EvX K W env tb mi)
    (k : ∀ ys, Blk K F0 H0 KP Z.nx (env.set i (some (.ow (ys.map toD)))) (f ys)) :
    Blk K F0 H0 KP (tAsg te (gSub (tVar i) tb rSetL) Z) env (m.bind fun y => mi.bind fun j => match ixN xs.length j with | some a => f (xs.set a y) | none => .stuck) := fun F H σ S h => by
  obtain ⟨v, e, p, vs, rfl, h0, hf, hp, hr⟩ := S.slot i _ hx
  refine he F0 H0 F H σ _ S (L.ke hT S h fun y u F1 H1 e1 a1 r1 h1 => ?_)
  refine ⟨_, e, ?_⟩
  refine hi F0 H0 F1 H1 σ _ (S.step a1) (L.ke hT (S.step a1) h1 fun j w F2 H2 e2 a2 r2 h2 => ?_)
  cases (show w = V.int j from r2)
  have hr' := Reps.mono (a1.trans a2).f _ _ hr
  have ha := (a1.trans a2)
  have hl : vs.length = xs.length := by rw [← hr.length, List.length_map]
  cases q : ixN xs.length j with
  | none => rw [q] at h2; exact (L.no h2).elim
  | some a =>
    rw [q] at h2
    refine ⟨p, vs, j, a, rfl, rfl, ha.h _ _ hp, by rw [hl]; exact q, ?_⟩
    refine k (xs.set a y) F2 _ σ ((S.step ha).chg hx e (ha.out p hf (by rw [hp]; simp)) h0 ?_) h2
    rw [List.map_set]
    exact Reps.set a hr' (Rep.mono a2.f _ _ r1)
theorem blk_freeze {xs : List D} (i : Nat) {m : Res τ} (hx : env[i]? = some (some (.ow xs))) (k : Blk K F0 H0 KP T (env.set i (some (.im (.lst xs)))) m) : Blk K F0 H0 KP T env m := fun F H σ S h => by
  obtain ⟨F', _, S'⟩ := S.freeze hx
  exact k F' H σ S' h
theorem blk_if {m : Res Bool} {f : Bool → Res τ} (L : Lk K W F0 H0 rt PT KP) (hT : PT env) (hc : EvT K W env tt m) (h1 : Blk K F0 H0 KP (t Z) env (f true)) (h2 : Blk K F0 H0 KP (u Z) env (f false)) :
    Blk K F0 H0 KP (tIfS tt t u Z) env (m.bind f) := fun F H σ S h =>
  hc F0 H0 F H σ _ S (L.kt hT S h fun b F1 H1 e1 a1 k1 => by
    cases b with
    | true => exact h1 F1 H1 σ (S.step a1) k1
    | false => exact h2 F1 H1 σ (S.step a1) k1)
theorem blk_ret {m : Res τ} [DR τ] (L : Lk K W F0 H0 rt PT KP) (hT : PT env) (he : EvX K W env te m) (hZ : Z.rt = rt := by rfl) : Blk K F0 H0 KP (tRet te Z) env m := fun F H σ S h => by
  subst hZ
  rw [← Res.bind_pure m] at h
  exact he F0 H0 F H σ _ S (L.ke hT S h fun x v F1 H1 e1 a1 r1 h1 => L.ok x h1 v F1 H1 (S.adv.trans a1) r1 (DR.tr _ _ _ _ _ _))
/-- x op= e -/
theorem blk_aug {i : Nat} {x : Int} {m : Res Int} {f : Int → Res τ} {g : Int → Int → Int} (L : Lk K W F0 H0 rt PT KP) (hT : PT env) (hx : env[i]? = some (some (.im (.int x)))) (he : EvX K W env te m)
    (k : ∀ y, Blk K F0 H0 KP Z.nx (env.set i (some (.im (.int (g x y))))) (f y)) : Blk K F0 H0 KP (tAug i te (ipI g) Z) env (m.bind f) := fun F H σ S h => by
  obtain ⟨v, e, q⟩ := S.slot i _ hx
  cases (show v = V.int x from q)
  refine ⟨_, e, he F0 H0 F H σ _ S (L.ke hT S h fun y w F1 H1 e1 a1 r1 k1 => ?_)⟩
  exact ⟨x, y, rfl, r1, k y F1 H1 _ ((S.step a1).setIm rfl) k1⟩
/-! ### loops -/
structure JS (K : PySem.W.Frag) (F : Hp) (J : It) (xs : List D) : Prop where
  go : ∀ i H, Ex F H → i < xs.length → J.go i H
  stop : ∀ i H, Ex F H → xs.length ≤ i → J.stop i H
  yld : ∀ i H v H' F1, Ex F F1 → Ex F1 H → i < xs.length → J.yld i H v H' → ∃ F2 x, Adv F1 H F2 H' ∧ xs[i]? = some x ∧ Rep K F2 x v
def KI (K : PySem.W.Frag) (W : WX) (F H : Hp) (σ : L2.St) {α : Type} [ToD α] (R : It → Hp → Prop) : Res (List α) → Prop
  | .ok xs => ∀ J F' H', Adv F H F' H' → JS K F' J (xs.map toD) → R J H'
  | .exc c => ∀ F' H', Adv F H F' H' → W (.ref (He.ga K c)) none σ H'
  | .stuck => False
def EvI (K : PySem.W.Frag) (W : WX) (env : En) (wi : TI) {α : Type} [ToD α] (m : Res (List α)) : Prop :=
  ∀ F0 H0 F H σ R, Sl K F0 H0 F H σ env → KI K W F H σ R m → wi σ H R
theorem Lk.ki (L : Lk K W F0 H0 rt PT KP) (hT : PT env) {σ : L2.St} (S : Sl K F0 H0 F H σ env) {m : Res (List α)} {f : List α → Res τ} (h : KP (m.bind f)) {R : It → Hp → Prop}
    (k : ∀ xs J F' H', m = .ok xs → Adv F H F' H' → JS K F' J (xs.map toD) → KP (f xs) → R J H') : KI K W F H σ R m := by
  cases m with
  | ok x => exact fun J F' H' a h1 => k x J F' H' rfl a h1 h
  | exc c => exact fun F' H' a => L.exc c F' H' σ env h hT (S.step a)
  | stuck => exact (L.no h).elim
theorem js_list {a : Addr} {vs : List V} {xs : List D} (hl : SqL K F a vs) (hr : Reps K F xs vs) : JS K F (Itl K a) xs := by
  have hn := hr.length
  refine ⟨fun i H e hi => ?_, fun i H e hi => ?_, fun i H v H' F1 e1 e2 hi hy => ?_⟩
  · exact ⟨vs, vs[i]'(by omega), Evl.ex_l e hl, List.getElem?_eq_getElem (by omega)⟩
  · exact ⟨vs, Evl.ex_l e hl, by omega⟩
  · obtain ⟨e, f⟩ := hy
    subst e
    have g := f vs (Evl.ex_l (e1.trans e2) hl)
    obtain ⟨w, q1, q2⟩ := hr.get (i := i) (e := xs[i]) (List.getElem?_eq_getElem hi)
    rw [g] at q1; cases q1
    exact ⟨F1, xs[i], Adv.refl e2, List.getElem?_eq_getElem hi, Rep.mono e1 _ _ q2⟩
theorem ei_list {m : Res (List α)} (h : EvX K W env te m) : EvI K W env (iList K te) m := fun F0 H0 F H σ R S k => by
  refine h F0 H0 F H σ _ S ?_
  cases m with
  | ok xs =>
    intro v F1 H1 a r
    obtain ⟨p, vs, rfl, h1, h2⟩ := r
    exact ⟨p, rfl, ⟨vs, sq_ex a.in_ h1⟩, k _ F1 H1 a (js_list (Evl.sq_of h1) h2)⟩
  | exc c => exact k
  | stuck => exact k.elim
def pyRange (lo hi : Int) : List Int := (List.range (hi - lo).toNat).map fun (i : Nat) => lo + (i : Int)
theorem pyRange_len (lo hi : Int) : (pyRange lo hi).length = (hi - lo).toNat := by simp [pyRange]
theorem pyRange_get {lo hi : Int} {i : Nat} (h : i < (hi - lo).toNat) : (pyRange lo hi)[i]? = some (lo + (i : Int)) := by
  simp [pyRange, h]
theorem js_range {lo hi : Int} : JS K F (Itr lo (hi - lo).toNat) ((pyRange lo hi).map toD) := by
  refine ⟨fun i H e h => ?_, fun i H e h => ?_, fun i H v H' F1 e1 e2 h hy => ?_⟩
  · rw [List.length_map, pyRange_len] at h; exact h
  · rw [List.length_map, pyRange_len] at h; exact h
  · rw [List.length_map, pyRange_len] at h
    obtain ⟨e, q⟩ := hy
    subst e q
    exact ⟨F1, .int (lo + (i : Int)), Adv.refl e2, by rw [List.getElem?_map, pyRange_get h]; rfl, rfl⟩
abbrev okRange (i : Int) : Prop := -(2 ^ 62) ≤ i ∧ i < 2 ^ 62
theorem ei_range1 {m : Res Int} (h : EvX K W env te m) : EvI K W env (iRng1 (tCons te tNil)) (m.bind fun j => .need (okRange j) (.ok (pyRange 0 j))) := fun F0 H0 F H σ R S k => by
  refine h F0 H0 F H σ _ S ?_
  cases m with
  | ok j =>
    intro v F1 H1 a r
    cases (show v = V.int j from r)
    have k : KI K W F H σ R (.need (okRange j) (.ok (pyRange 0 j))) := k
    by_cases c : okRange j
    · rw [Res.need_pos c] at k
      refine ⟨j, rfl, c.1, c.2, k _ F1 H1 a ?_⟩
      have := js_range (K := K) (F := F1) (lo := 0) (hi := j)
      rw [Int.sub_zero] at this
      exact this
    · rw [Res.need_neg c] at k; exact k.elim
  | exc c => exact k
  | stuck => exact k.elim
/-- range(i, j, -1) -/
def pyDown (i j : Int) : List Int := (List.range (i - j).toNat).map fun (a : Nat) => i - (a : Int)
theorem blk_for {S : Type} {wi : TI} {g : TG} {tb : TS} {m : Res (List α)} {fe : α → En → En} {ws : List Nat} (loop : List α → S → Res τ) (k : S → Res τ) (envS : S → En) (s0 : S)
    (L : Lk K W F0 H0 rt PT KP) (hT : PT env) (hi : EvI K W env wi m) (hg : ∀ x, GX K g (toD x) (fe x) ws) (h0 : EnLe env (envS s0)) (hnil : ∀ s, loop [] s = k s)
    (hbody : ∀ F1, Lk K W F1 H0 rt PT KP → (∀ s, Blk K F1 H0 KP Z.nx (envS s) (k s)) → ∀ x r s (N : L2.St → Hp → Prop), (∀ s', Blk K F1 H0 KP N (envS s') (loop r s')) →
      Blk K F1 H0 KP (tb { Z with nx := N, ct := N, bk := Z.nx }) (fe x (envS s)) (loop (x :: r) s))
    (hrest : ∀ s, Blk K F0 H0 KP Z.nx (envS s) (k s)) : Blk K F0 H0 KP (tFor wi g tb Z) env (m.bind fun xs => loop xs s0) := fun F H σ S h => by
  refine hi F0 H0 F H σ _ S (L.ki hT S h fun xs J F1 H1 e1 a1 js h1 => ?_)
  have S1 := (S.step a1).weak h0
  have S11 : Sl K F1 H0 F1 H1 σ (envS s0) := ⟨⟨Ex.refl _, S1.adv.h, S1.adv.in_, fun p q _ => q⟩, S1.slot, S1.dis, S1.len⟩
  have hB := hbody F1 (L.base S1) (fun s => (hrest s).base S1)
  have hn : (xs.map toD).length = xs.length := List.length_map ..
  refine ⟨fun i m σ H => m = xs.length - i ∧ i ≤ xs.length ∧ ∃ F s, Sl K F1 H0 F H σ (envS s) ∧ KP (loop (xs.drop i) s), ⟨xs.length, rfl, Nat.zero_le _, F1, s0, S11, h1⟩, ?_⟩
  rintro i m σ H ⟨rfl, hle, F, s, S, h⟩
  by_cases hlt : i < xs.length
  · refine .inr ⟨js.go i H (S.adv.f.trans S.ex) (by rw [hn]; exact hlt), fun σ' H' => ∃ F s, Sl K F1 H0 F H' σ' (envS s) ∧ KP (loop (xs.drop (i + 1)) s), fun σ' H' w => ⟨_, by omega, rfl, hlt, w⟩, fun v H' hy => ?_⟩
    obtain ⟨F2, x, a2, ex, rx⟩ := js.yld i H v H' F S.adv.f S.ex (by rw [hn]; exact hlt) hy
    rw [List.getElem?_map, List.getElem?_eq_getElem hlt] at ex
    cases ex
    refine hg xs[i] F1 H0 F2 H' σ (envS s) v _ (S.step a2) rx fun σ' S' _ _ => ?_
    have e : xs.drop i = xs[i] :: xs.drop (i + 1) := List.drop_eq_getElem_cons hlt
    rw [e] at h
    exact hB xs[i] (xs.drop (i + 1)) s _ (fun s' F H σ S h => ⟨F, s', S, h⟩) F2 H' σ' S' h
  · have e : xs.drop i = [] := List.drop_of_length_le (by omega)
    rw [e, hnil] at h
    exact .inl ⟨js.stop i H (S.adv.f.trans S.ex) (by rw [hn]; omega), (hrest s).base S1 F H σ S h⟩
/-! ### comprehensions -/
def compL {α β : Type} (t : α → Res Bool) (e : α → Res β) : List α → Res (List β)
  | [] => .ok []
  | x :: r => (t x).bind fun b => cond b ((e x).bind fun y => (compL t e r).bind fun ys => .ok (y :: ys)) (compL t e r)
def mapL {α β : Type} (e : α → Res β) : List α → Res (List β)
  | [] => .ok []
  | x :: r => (e x).bind fun y => (mapL e r).bind fun ys => .ok (y :: ys)
end
end Mi
set_option maxHeartbeats 1000000
namespace Mi
open PySem PySem.Spec L2
open Evl (Ex)
section
variable {K : PySem.W.Frag} {W : WX} {F0 H0 F H F' H' F1 : Hp} {rt : VK} {PT : En → Prop} {env env' : En} {α β γ τ : Type} [ToD α] [ToD β] [ToD γ] [ToD τ] [ToR τ] {KP : Res τ → Prop} {te ta tb tc : TE} {tt : TT} {Z : Ends} {t u : TS} {T : L2.St → Hp → Prop} {σ : L2.St}

/-! ### comprehensions -/
theorem Sl.updN (S : Sl K F0 H0 F H σ env) {p : Addr} {o : HO} (hp : F p = none) (h0 : H0 p = none) (hn : ∀ (i : Nat) (sk : Sk), env[i]? = some (some sk) → sk.own = true → σ[i]? ≠ some (some (V.ref p))) : Sl K F0 H0 F (upd H p o) σ env := by
  refine ⟨⟨S.adv.f, fun a u q => ?_, fun a u q => ?_, S.adv.out⟩, fun j sk q => ?_, S.dis, S.len⟩
  · rw [upd_ne (ne_of_none q h0)]; exact S.adv.h a u q
  · rw [upd_ne (ne_of_none q hp)]; exact S.adv.in_ a u q
  · obtain ⟨w, h1, h2⟩ := S.slot j sk q
    exact ⟨w, h1, h2.updH fun o2 zz => hn j sk q o2 (by rw [h1, zz])⟩
/-- the names of a comprehension are forgotten -/
def unset : List Nat → En → En
  | [], e => e
  | i :: is, e => (unset is e).set i none
theorem unset_len (e : En) : ∀ ws : List Nat, (unset ws e).length = e.length
  | [] => rfl
  | i :: is => by show ((unset is e).set i none).length = _; rw [List.length_set, unset_len e is]
theorem unset_get {e : En} {j : Nat} {sk : Sk} : ∀ {ws : List Nat}, (unset ws e)[j]? = some (some sk) → e[j]? = some (some sk) ∧ j ∉ ws
  | [], h => ⟨h, by simp⟩
  | i :: is, h => by
    have h : ((unset is e).set i none)[j]? = some (some sk) := h
    rcases set_get h with ⟨_, z⟩ | ⟨z, h⟩
    · cases z
    · obtain ⟨h1, h2⟩ := unset_get h
      exact ⟨h1, by simp only [List.mem_cons, not_or]; exact ⟨fun e => z e.symm, h2⟩⟩
theorem Sl.wipe (S : Sl K F0 H0 F H σ env) (ws : List Nat) : Sl K F0 H0 F H (L2.wipe σ ws) (unset ws env) := by
  refine ⟨S.adv, fun i sk e => ?_, fun i j xs ys p hij e1 e2 o1 o2 h1 => ?_, by rw [wipe_length, unset_len]; exact S.len⟩
  · obtain ⟨e, hn⟩ := unset_get e
    rw [wipe_out hn]; exact S.slot i sk e
  · obtain ⟨e1, n1⟩ := unset_get e1
    obtain ⟨e2, n2⟩ := unset_get e2
    rw [wipe_out n1] at h1
    rw [wipe_out n2]
    exact S.dis i j xs ys p hij e1 e2 o1 o2 h1
theorem wipe_in {j : Nat} : ∀ {ws : List Nat}, j ∈ ws → j < σ.length → (L2.wipe σ ws)[j]? = some none
  | [], h, _ => by cases h
  | i :: is, h, hl => by
    show ((L2.wipe σ is).set i none)[j]? = some none
    by_cases e : i = j
    · subst e
      rw [List.getElem?_set_self (by rw [wipe_length]; exact hl)]
    · rw [List.getElem?_set_ne e]
      rcases List.mem_cons.mp h with z | z
      · exact absurd z.symm e
      · exact wipe_in z hl
theorem wipe_eq {σ' : L2.St} {ws : List Nat} (hl : σ'.length = (L2.wipe σ ws).length) (ho : ∀ j, j ∉ ws → σ'[j]? = (L2.wipe σ ws)[j]?) : L2.wipe σ' ws = L2.wipe σ ws := by
  rw [wipe_length] at hl
  apply List.ext_getElem?
  intro j
  by_cases hj : j ∈ ws
  · by_cases hlt : j < σ.length
    · rw [wipe_in hj hlt, wipe_in hj (by rw [hl]; exact hlt)]
    · rw [List.getElem?_eq_none (by rw [wipe_length]; omega), List.getElem?_eq_none (by rw [wipe_length]; omega)]
  · rw [wipe_out hj, ho j hj]
abbrev WT : WX := fun _ _ _ _ => True
theorem ev_comp {wi : TI} {g : TG} {m : Res (List α)} {fe : α → En → En} {ws : List Nat} {tst : α → Res Bool} {el : α → Res β} (hi : EvI K W env wi m) (hg : ∀ x, GX K g (toD x) (fe x) ws)
    (ht : ∀ x, EvT K WT (fe x (unset ws env)) tt (tst x)) (he : ∀ x, EvX K WT (fe x (unset ws env)) te (el x)) :
    EvN K W env (tLc wi g tt te ws) (m.bind fun xs => .need (xs.length ≤ 16777216) (compL tst el xs)) := fun F0 H0 F H σ Q S k => by
  refine hi F0 H0 F H σ _ S ?_
  cases m with
  | exc c => exact k
  | stuck => exact k.elim
  | ok xs =>
  intro J F1 H1 a1 js D hD
  have k : KN K W F H σ Q (.need (xs.length ≤ 16777216) (compL tst el xs)) := k
  by_cases c : xs.length ≤ 16777216
  case neg => rw [Res.need_neg c] at k; exact k.elim
  rw [Res.need_pos c] at k
  have hn : (xs.map toD).length = xs.length := List.length_map ..
  have hDF : F1 D = none := none_of_ex a1.in_ hD
  have hDH : H D = none := Evl.fresh_back a1.h hD
  have hD0 : H0 D = none := Evl.fresh_back S.adv.h hDH
  -- the new list is none of the slots'
  have hne : ∀ (i : Nat) (sk : Sk), env[i]? = some (some sk) → sk.own = true → σ[i]? ≠ some (some (V.ref D)) := fun i sk e ho z => by
    obtain ⟨v, e1, q⟩ := S.slot i _ e
    obtain ⟨p, o, rfl, _, _, q⟩ := q.at ho
    rw [e1] at z; cases z
    rw [hDH] at q; cases q
  have S1 : Sl K F0 H0 F1 (upd H1 D (.lst [])) σ env := (S.step a1).updN hDF hD0 hne
  refine ⟨fun i n H' => n = xs.length - i ∧ i ≤ xs.length ∧ ∃ F' acc vs, Sl K F0 H0 F' H' σ env ∧ Adv F H F' H' ∧ Ex F1 F' ∧ F' D = none ∧ H' D = some (.lst vs) ∧ Reps K F' (acc.map toD) vs ∧ acc.length ≤ i ∧
    (∀ ys, compL tst el (xs.drop i) = .ok ys → compL tst el xs = .ok (acc ++ ys)) ∧ (∀ c, compL tst el (xs.drop i) = .exc c → compL tst el xs = .exc c) ∧ (compL tst el (xs.drop i) = .stuck → compL tst el xs = .stuck),
    ⟨xs.length, rfl, Nat.zero_le _, F1, ([] : List β), [], S1, a1.trans (Adv.newO a1.in_ hD), Ex.refl _, hDF, upd_same, (show Reps K F1 [] [] from rfl), Nat.le_refl _, fun ys h => h, fun c h => h, fun h => h⟩, ?_⟩
  rintro i n H2 ⟨rfl, hle, F2, acc, vs, S2, a2, x2, f2, h2, r2, l2, q1, q2, q3⟩
  by_cases hlt : i < xs.length
  · refine .inr ⟨js.go i H2 (x2.trans a2.in_) (by rw [hn]; exact hlt), fun H' => (i + 1 ≤ xs.length ∧ ∃ F' acc vs, Sl K F0 H0 F' H' σ env ∧ Adv F H F' H' ∧ Ex F1 F' ∧ F' D = none ∧ H' D = some (.lst vs) ∧ Reps K F' (acc.map toD) vs ∧ acc.length ≤ i + 1 ∧
      (∀ ys, compL tst el (xs.drop (i + 1)) = .ok ys → compL tst el xs = .ok (acc ++ ys)) ∧ (∀ c, compL tst el (xs.drop (i + 1)) = .exc c → compL tst el xs = .exc c) ∧ (compL tst el (xs.drop (i + 1)) = .stuck → compL tst el xs = .stuck)),
      fun H' w => ⟨_, by omega, rfl, w⟩, fun v H3 hy => ?_⟩
    obtain ⟨F3, x, a3, ex, rx⟩ := js.yld i H2 v H3 F2 x2 a2.in_ (by rw [hn]; exact hlt) hy
    rw [List.getElem?_map, List.getElem?_eq_getElem hlt] at ex
    cases ex
    have e : xs.drop i = xs[i] :: xs.drop (i + 1) := List.drop_eq_getElem_cons hlt
    rw [e] at q1 q2 q3
    have S3 := S2.step a3
    refine hg xs[i] F0 H0 F3 H3 _ _ v _ (S3.wipe ws) rx fun σ' S' sl so => ⟨wipe_eq sl so, ?_⟩
    have f3 : F3 D = none := a3.out D f2 (by rw [h2]; simp)
    refine ht xs[i] F0 H0 F3 H3 σ' _ S' ?_
    cases qt : tst xs[i] with
    | exc c => exact fun _ _ _ => trivial
    | stuck =>
      have := q3 (by show (tst xs[i]).bind _ = _; rw [qt]; rfl)
      rw [this] at k; exact k.elim
    | ok b =>
    intro F4 H4 a4
    have f4 : F4 D = none := a4.out D f3 (by rw [a3.h _ _ h2]; simp)
    cases b with
    | false =>
      show i + 1 ≤ xs.length ∧ _
      refine ⟨hlt, F4, acc, vs, S3.step a4, (a2.trans a3).trans a4, (x2.trans a3.f).trans a4.f, f4, a4.h _ _ (a3.h _ _ h2), Reps.mono (a3.trans a4).f _ _ r2, by omega, fun ys h => ?_, fun c h => ?_, fun h => ?_⟩
      · exact q1 ys (by show (tst xs[i]).bind _ = _; rw [qt]; exact h)
      · exact q2 c (by show (tst xs[i]).bind _ = _; rw [qt]; exact h)
      · exact q3 (by show (tst xs[i]).bind _ = _; rw [qt]; exact h)
    | true =>
      show te σ' H4 _
      refine he xs[i] F0 H0 F4 H4 σ' _ (S'.step a4) ?_
      cases qe : el xs[i] with
      | exc c => exact fun _ _ _ => trivial
      | stuck =>
        have := q3 (by show (tst xs[i]).bind _ = _; rw [qt]; show (el xs[i]).bind _ = _; rw [qe]; rfl)
        rw [this] at k; exact k.elim
      | ok y =>
      intro w F5 H5 a5 r5
      have f5 : F5 D = none := a5.out D f4 (by rw [a4.h _ _ (a3.h _ _ h2)]; simp)
      have h5 : H5 D = some (.lst vs) := a5.h _ _ (a4.h _ _ (a3.h _ _ h2))
      have ad := ((a2.trans a3).trans a4).trans a5
      refine ⟨vs, h5, by rw [sizeLine_eq, ← r2.length, List.length_map]; omega, hlt, F5, acc ++ [y], vs ++ [w], ((S3.step a4).step a5).updN f5 hD0 hne, ⟨ad.f, fun a u q => ?_, fun a u q => ?_, ad.out⟩,
        ((x2.trans a3.f).trans a4.f).trans a5.f, f5, upd_same, ?_, by rw [List.length_append]; simp; omega, fun ys h => ?_, fun c h => ?_, fun h => ?_⟩
      · rw [upd_ne (ne_of_none q hDH)]; exact ad.h a u q
      · rw [upd_ne (ne_of_none q f5)]; exact ad.in_ a u q
      · rw [List.map_append]
        exact Reps.append (Reps.mono ((a3.trans a4).trans a5).f _ _ r2) (Reps.one r5)
      · rw [q1 (y :: ys) (by show (tst xs[i]).bind _ = _; rw [qt]; show (el xs[i]).bind _ = _; rw [qe]; show (compL tst el _).bind _ = _; rw [h]; rfl)]
        rw [List.append_assoc]; rfl
      · exact q2 c (by show (tst xs[i]).bind _ = _; rw [qt]; show (el xs[i]).bind _ = _; rw [qe]; show (compL tst el _).bind _ = _; rw [h]; rfl)
      · exact q3 (by show (tst xs[i]).bind _ = _; rw [qt]; show (el xs[i]).bind _ = _; rw [qe]; show (compL tst el _).bind _ = _; rw [h]; rfl)
  · have e : xs.drop i = [] := List.drop_of_length_le (by omega)
    rw [e] at q1
    have := q1 [] rfl
    rw [List.append_nil] at this
    rw [this] at k
    exact .inl ⟨js.stop i H2 (x2.trans a2.in_) (by rw [hn]; omega), k D vs F2 H2 a2 hDH f2 h2 r2⟩
theorem et_yes : EvT K W env tYes (.ok true) := fun F0 H0 F H σ Q S k => k F H (Adv.refl S.ex)

/-! ### built-in defs -/
theorem cx_len : CrX K (fun xs H Q => ∃ p ys, xs = [.ref p] ∧ (SqL K H p ys ∨ SqT K H p ys) ∧ Q (.int ys.length) H) (fun (p : List α × Unit) => .ok (p.1.length : Int)) := fun F H x vs Q e r k => by
  obtain ⟨v, r1, rfl, ⟨a, ws, rfl, hl, hr⟩, h2⟩ := r
  cases (show r1 = [] from h2)
  refine ⟨a, ws, rfl, .inl (sq_ex e hl), ?_⟩
  rw [← hr.length, List.length_map]
  exact k _ F H (Adv.refl e) rfl
theorem cx_lenT {n : Nat} (hn : ∀ x : α, ∃ ds, toD x = .tup ds ∧ ds.length = n) : CrX K (fun xs H Q => ∃ p ys, xs = [.ref p] ∧ (SqL K H p ys ∨ SqT K H p ys) ∧ Q (.int ys.length) H) (fun (p : α × Unit) => .ok (n : Int)) := fun F H x vs Q e r k => by
  obtain ⟨v, r1, rfl, hv, h2⟩ := r
  obtain ⟨ds, e1, e2⟩ := hn x.1
  have hv : Rep K F (toD x.1) v := hv
  rw [e1] at hv
  obtain ⟨a, ws, rfl, hl, hr⟩ := hv
  cases (show r1 = [] from h2)
  refine ⟨a, ws, rfl, .inr (Evl.ex_t e hl), ?_⟩
  rw [← hr.length, e2]
  exact k _ F H (Adv.refl e) rfl
theorem ev_lenO {j : Nat} {xs : List α} (h : env[j]? = some (some (.ow (xs.map toD)))) : EvX K W env (tCB (fun xs H Q => ∃ p ys, xs = [V.ref p] ∧ (SqL K H p ys ∨ SqT K H p ys) ∧ Q (.int ys.length) H) (tCons (tVar j) tNil)) (.ok (xs.length : Int)) := fun F0 H0 F H σ Q S k => by
  obtain ⟨v, e, p, vs, rfl, h0, hf, hp, hr⟩ := S.slot j _ h
  refine ⟨_, e, p, vs, rfl, .inl (.inl (.inl hp)), ?_⟩
  rw [← hr.length, List.length_map]
  exact k _ F H (Adv.refl S.ex) rfl
theorem cx_abs : CrX K (fun xs H Q => ∃ i, xs = [.int i] ∧ Q (.int (if i < 0 then -i else i)) H) (fun (p : Int × Unit) => .ok (p.1.natAbs : Int)) := fun F H x vs Q e r k => by
  obtain ⟨v, r1, rfl, h1, h2⟩ := r
  cases (show r1 = [] from h2); cases (show v = V.int x.1 from h1)
  refine ⟨x.1, rfl, ?_⟩
  have q : (if x.1 < 0 then -x.1 else x.1) = (x.1.natAbs : Int) := by split <;> omega
  rw [q]
  exact k _ F H (Adv.refl e) rfl
theorem cx_min : CrX K (fun xs H Q => ∃ i j, xs = [.int i, .int j] ∧ Q (.int (if j < i then j else i)) H) (fun (p : Int × Int × Unit) => .ok (min p.1 p.2.1)) := fun F H x vs Q e r k => by
  obtain ⟨v, r1, rfl, h1, w, r2, rfl, h2, h3⟩ := r
  cases (show r2 = [] from h3); cases (show v = V.int x.1 from h1); cases (show w = V.int x.2.1 from h2)
  refine ⟨x.1, x.2.1, rfl, ?_⟩
  have q : (if x.2.1 < x.1 then x.2.1 else x.1) = min x.1 x.2.1 := by split <;> omega
  rw [q]
  exact k _ F H (Adv.refl e) rfl
theorem cx_int : CrX K (fun xs H Q => (∃ i, xs = [.int i] ∧ Q (.int i) H) ∨ ∃ k, xs = [.bl k] ∧ Q (.int (if k then 1 else 0)) H) (fun (p : Int × Unit) => .ok p.1) := fun F H x vs Q e r k => by
  obtain ⟨v, r1, rfl, h1, h2⟩ := r
  cases (show r1 = [] from h2); cases (show v = V.int x.1 from h1)
  exact .inl ⟨x.1, rfl, k _ F H (Adv.refl e) rfl⟩
/-- the greatest, the least of a list that is not empty -/
def lmax : List Int → Int
  | [] => 0
  | x :: r => r.foldl max x
def lmin : List Int → Int
  | [] => 0
  | x :: r => r.foldl min x
theorem cx_all : CrX K (rAll K) (fun (p : List Bool × Unit) => .ok (p.1.all id)) := fun F H x vs Q e r k => by
  obtain ⟨v, r1, rfl, ⟨a, ws, rfl, hl, hr⟩, h2⟩ := r
  cases (show r1 = [] from h2)
  have e2 : ws = x.1.map V.bl := Reps.bls hr
  subst e2
  exact ⟨a, x.1, rfl, sq_ex e hl, k _ F H (Adv.refl e) rfl⟩
theorem cx_any : CrX K (rAny K) (fun (p : List Bool × Unit) => .ok (p.1.any id)) := fun F H x vs Q e r k => by
  obtain ⟨v, r1, rfl, ⟨a, ws, rfl, hl, hr⟩, h2⟩ := r
  cases (show r1 = [] from h2)
  have e2 : ws = x.1.map V.bl := Reps.bls hr
  subst e2
  exact ⟨a, x.1, rfl, sq_ex e hl, k _ F H (Adv.refl e) rfl⟩
/-- list(xs): a new list -/
theorem en_list {m : Res (List α)} (h : EvX K W env te m) : EvN K W env (tCB (fun xs H Q => ∃ p ys, xs = [V.ref p] ∧ (SqL K H p ys ∨ SqT K H p ys) ∧ ∀ l, H l = none → Q (.ref l) (upd H l (.lst ys))) (tCons te tNil)) m := fun F0 H0 F H σ Q S k => by
  refine h F0 H0 F H σ _ S ?_
  cases m with
  | ok xs =>
    intro v F1 H1 a r
    obtain ⟨p, vs, rfl, h1, h2⟩ := r
    exact ⟨p, vs, rfl, .inl (sq_ex a.in_ h1), fun l hl => k l vs F1 _ (a.trans (Adv.newO a.in_ hl)) (Evl.fresh_back a.h hl) (none_of_ex a.in_ hl) upd_same h2⟩
  | exc c => exact k
  | stuck => exact k.elim
/-- xs[lo:hi] -/
theorem en_slice {m : Res (List α)} {lo hi : Option Int} {tl th : TO} (h : EvX K W env te m) (hl : ∀ σ H Q, Q lo H → tl σ H Q) (hh : ∀ σ H Q, Q hi H → th σ H Q) :
    EvN K W env (tSl (rSlL K) te tl th) (m.bind fun xs => .ok ((xs.drop (HT.sIx xs.length 0 lo)).take (HT.sIx xs.length xs.length hi - HT.sIx xs.length 0 lo))) := fun F0 H0 F H σ Q S k => by
  refine h F0 H0 F H σ _ S ?_
  cases m with
  | ok xs =>
    intro v F1 H1 a r
    obtain ⟨p, vs, rfl, h1, h2⟩ := r
    refine hl _ _ _ (hh _ _ _ ⟨p, vs, rfl, sq_ex a.in_ h1, fun l hl => ?_⟩)
    refine k l _ F1 _ (a.trans (Adv.newO a.in_ hl)) (Evl.fresh_back a.h hl) (none_of_ex a.in_ hl) upd_same ?_
    have e : xs.length = vs.length := by have := h2.length; rwa [List.length_map] at this
    unfold cutV
    rw [List.map_take, List.map_drop, e]
    exact Reps.take _ (Reps.drop _ h2)
  | exc c => exact k
  | stuck => exact k.elim
theorem to_none : ∀ (σ : L2.St) (H : Hp) (Q : Option Int → Hp → Prop), Q none H → tNoPart σ H Q := fun _ _ _ q => q
theorem to_int {i : Int} : ∀ (σ : L2.St) (H : Hp) (Q : Option Int → Hp → Prop), Q (some i) H → tPart (tC (.int i)) σ H Q := fun _ _ _ q => ⟨i, rfl, q⟩

/-! ### isinstance of data -/
def tyName : D → String
  | .non => "NoneType" | .bl _ => "bool" | .int _ => "int" | .str _ => "str" | .ty _ => "type" | .tup _ => "tuple" | .lst _ => "list" | .obj _ _ _ => "object" | .ro _ => "list" | .dct _ _ => "dict"
def D.plain : D → Bool
  | .ty _ => false | .obj _ _ _ => false | .ro _ => false | .dct _ _ => false | _ => true
theorem tyx_of {x : D} {v : V} (h : Rep K F x v) (e : Ex F H) (p : x.plain = true) : TyX K H v (.type (tyName x)) := by
  cases x with
  | non => rw [show v = V.non from h]; exact .base .non
  | bl b => rw [show v = V.bl b from h]; exact .base (.bl b)
  | int b => rw [show v = V.int b from h]; exact .base (.int b)
  | str b => rw [show v = V.str b from h]; exact .base (.str b)
  | ty b => cases p
  | obj c ks ds => cases p
  | ro ds => cases p
  | dct ks ds => cases p
  | lst ds =>
    obtain ⟨a, vs, rfl, hl, _⟩ := h
    rcases sq_ex e hl with (q | ⟨o, q⟩) | ⟨o, its, n, q1, q2, _⟩
    · exact .base (.lst q)
    · exact .base (.frz q)
    · exact .kList q1 q2
  | tup ds =>
    obtain ⟨a, vs, rfl, hl, _⟩ := h
    rcases Evl.ex_t e hl with (q | ⟨o, q⟩) | ⟨o, its, n, q1, q2, _⟩
    · exact .base (.tup q)
    · exact .fTuple q
    · exact .kTuple q1 q2
/-- isinstance(x, T), T a built-in class, x any data but objects -/
def isI (n : String) (x : D) : Bool := tyName x == n || (n == "int" && tyName x == "bool")
def isiOk (n : String) : Prop := kitB "NoneType" n = some ("NoneType" == n) ∧ kitB "bool" n = some ("bool" == n || n == "int") ∧ kitB "int" n = some ("int" == n) ∧ kitB "str" n = some ("str" == n) ∧ kitB "tuple" n = some ("tuple" == n) ∧ kitB "list" n = some ("list" == n)
theorem ev_isi {n : String} {m : Res α} (hn : isiOk n) (h : EvX K W env te m) : EvX K W env (tCB (rIsi K) (tCons te (tCons (tC (.ty n)) tNil))) (m.bind fun x => .need ((toD x).plain = true) (.ok (isI n (toD x)))) := fun F0 H0 F H σ Q S k => by
  refine h F0 H0 F H σ _ S (KE.cut S.ex k fun x v F1 H1 e1 a1 r1 k1 => ?_)
  by_cases c : (toD x).plain = true
  · rw [Res.need_pos c] at k1
    refine ⟨v, .ty n, _, _, isI n (toD x), rfl, .ty n, tyx_of r1 a1.in_ c, ?_, k1 _ F1 H1 (Adv.refl a1.in_) rfl⟩
    refine kit_ty ?_
    obtain ⟨h1, h2, h3, h4, h5, h6⟩ := hn
    revert c
    generalize toD x = y
    intro c
    cases y with
    | non => rw [show tyName .non = "NoneType" from rfl, h1]; simp [isI, tyName]
    | bl b => rw [show tyName (.bl b) = "bool" from rfl, h2]; simp [isI, tyName]
    | int b => rw [show tyName (.int b) = "int" from rfl, h3]; simp [isI, tyName]
    | str b => rw [show tyName (.str b) = "str" from rfl, h4]; simp [isI, tyName]
    | tup b => rw [show tyName (.tup b) = "tuple" from rfl, h5]; simp [isI, tyName]
    | lst b => rw [show tyName (.lst b) = "list" from rfl, h6]; simp [isI, tyName]
    | ty b => cases c
    | obj a b d => cases c
    | ro a => cases c
    | dct a b => cases c
  · rw [Res.need_neg c] at k1; exact k1.elim
theorem isi_bool : isiOk "bool" := by unfold isiOk; decide +kernel
theorem isi_tuple : isiOk "tuple" := by unfold isiOk; decide +kernel
/-! ### errors -/
/-- what a body of a try gives: it falls through, or it hands back -/
inductive Fall (S τ : Type) where
  | go (s : S) | back (x : τ)
instance {S τ : Type} [ToR τ] : ToR (Fall S τ) := ⟨fun K x v H0 F H => match x with | .go _ => True | .back y => ToR.fr K y v H0 F H⟩
instance {S τ : Type} [ToR τ] [DR τ] : DR (Fall S τ) := ⟨fun K x v H0 F H => match x with | .go _ => trivial | .back y => DR.tr K y v H0 F H⟩
instance {S τ : Type} [ToD τ] : ToD (Fall S τ) := ⟨fun x => match x with | .go _ => .obj Str.empty [] [.non] | .back x => ToD.d x⟩
/-- the classes of the errors: which they are, which is under which -/
structure Cls (K : PySem.W.Frag) (cs : List Str) (sub : Str → Str → Bool) : Prop where
  exc : ∀ c ∈ cs, ExcC K (He.ga K c)
  exm : ∀ c ∈ cs, ∀ d ∈ cs, PySem.W.exmOne K (.ref (He.ga K c)) (.ref (He.ga K d)) = some (sub c d)
  kit : ∀ c ∈ cs, ∀ d ∈ cs, PySem.W.kitOne K (.ref (He.ga K c)) (.ref (He.ga K d)) = some (sub c d)
  kiv : ∀ c ∈ cs, PySem.W.kitOne K (.ref (He.ga K c)) (.type "ValueError") = some true
/-- the outcome of: try body, except X -/
def tryR {S τ : Type} (known : Str → Bool) (sub : Str → Bool) (m : Res (Fall S τ)) (rest : S → Res τ) (hd : Str → Res τ) : Res τ := match m with
  | .ok (.go s) => rest s
  | .ok (.back x) => .ok x
  | .exc c => if known c = true then (if sub c = true then hd c else .exc c) else .stuck
  | .stuck => .stuck
/-- isinstance(e, C), isinstance(e, (C1, C2)) in the suite -/
def rIsE2 (K : PySem.W.Frag) (a : Addr) (cls : Value) (d : Option Addr) : List V → Hp → VK → Prop := fun xs H Q => ∃ (Dc : Addr) (c : V) (cv : Value) (b : Bool), cls = .ref Dc ∧ d = none ∧ ExcC K Dc ∧ xs = [.ref a, c] ∧ (∀ u, RelV c u → u = cv) ∧ PySem.W.kitOne K (.ref Dc) cv = some b ∧ Q (.bl b) H
def rIsET (K : PySem.W.Frag) (a : Addr) (cls : Value) (d : Option Addr) : List V → Hp → VK → Prop := fun xs H Q => ∃ (Dc tp : Addr) (cl : List V) (us : List Value) (b : Bool), cls = .ref Dc ∧ d = none ∧ ExcC K Dc ∧ xs = [.ref a, .ref tp] ∧ H tp = some (.tup cl) ∧ Paired ClsV cl us ∧ PySem.W.kitAny K (.ref Dc) us = some b ∧ Q (.bl b) H
end

/-! ### a def -/
def enStart (N : List Str) (ds : List D) : En := ds.map (fun x => some (.im x)) ++ List.replicate (N.length - ds.length) none
theorem sl_start {K : PySem.W.Frag} {F H : Hp} {N : List Str} {ds : List D} {vs : List V} (e : Ex F H) (r : Reps K F ds vs) : Sl K F H F H (L2.start N vs) (enStart N ds) := by
  have hl := r.length
  refine ⟨Adv.refl e, fun i sk q => ?_, fun i j xs ys p _ q _ oo _ _ => ?_, by simp [L2.start, enStart, hl]⟩
  · unfold enStart at q
    by_cases c : i < ds.length
    · rw [List.getElem?_append_left (by simpa using c), List.getElem?_map, List.getElem?_eq_getElem c] at q
      cases q
      obtain ⟨v, h1, h2⟩ := r.get (List.getElem?_eq_getElem c)
      refine ⟨v, ?_, h2⟩
      unfold L2.start
      rw [List.getElem?_append_left (by rw [List.length_map]; omega), List.getElem?_map, h1]; rfl
    · rw [List.getElem?_append_right (by simpa using c), List.getElem?_replicate] at q
      split at q <;> cases q
  · unfold enStart at q
    by_cases c : i < ds.length
    · rw [List.getElem?_append_left (by simpa using c), List.getElem?_map, List.getElem?_eq_getElem c] at q
      cases q; cases oo
    · rw [List.getElem?_append_right (by simpa using c), List.getElem?_replicate] at q
      split at q <;> cases q
section
variable {P : Program} {w : World} {K : PySem.W.Frag} {mg : Str → Option Value} {base : Heap} {x qual : Str} {params : Arguments} {body : List Stmt} {scope : Scope} {dvs : List V} {kws : List (Str × V)} {f : Addr} {fd : FuncData}
theorem fn_ok {N ps : List Str} {k : Nat} {β τ : Type} [ToDs β] [ToD τ] [ToR τ] {fM : β → Res τ} (F : FunD K x qual params body scope dvs kws f fd) (S : FnScope N ps scope) (hl : ∀ y : β, (ToDs.ds y).length = ps.length)
    (hbody : ∀ (cdv : Value) (A : Around) (outer : List Env) (s : Shared) (H : Hp) (E : XK), Room k (A.deeper (PyProof.Rows.envOfC qual scope s.heap.objs.size f cdv)) →
      ∃ t, PSs (cxOf (L2.CX P w) P w K mg base N qual scope f cdv A outer s H E) body t ∧
        ∀ (y : β) (F0 H0 : Hp) (Q : VK) (KP : Res τ → Prop), Lk K (fun cls d _ H => E cls d H) F0 H0 Q (fun _ => True) KP → Blk K F0 H0 KP (t { nx := fun _ H' => Q .non H', rt := Q }) (enStart N (ToDs.ds y)) (fM y)) :
    FnOk P w K mg base (L2.CX P w) (k + 1) f fd ps (spM K fM) := by
  refine F.ok S (fun vs H Q E h => ?_) (fun cdv A outer s H vs Q E hr h => ?_)
  · obtain ⟨F, y, _, r, _⟩ := h
    rw [← r.length]; exact hl y
  · obtain ⟨t, h1, h2⟩ := hbody cdv A outer s H E hr
    refine ⟨t, h1, ?_⟩
    obtain ⟨F, y, e, r, q⟩ := h
    refine h2 y F H Q (fun r => KE K (fun cls d _ H => E cls d H) F H [] Q r) ⟨fun z h v F' H' a r _ => h v F' H' a r, fun c F' H' σ env h _ S' => h F' H' S'.adv, fun z => z⟩ F H _ (sl_start e r) q
end
end Mi
set_option maxHeartbeats 1000000
namespace Mi
open PySem PySem.Spec L2
open Evl (Ex)
abbrev W0 (E : XK) : WX := fun cls d _ H => E cls d H
theorem need_mild {α : Type} {p : Prop} {x : α} {c : Str} (h : Res.need p (.ok x) = .exc c) : False := by
  by_cases q : p
  · rw [Res.need_pos q] at h; cases h
  · rw [Res.need_neg q] at h; cases h
/-! what a value of any kind is taken for -/
def D.asInt : D → Res Int
  | .int i => .ok i
  | _ => .stuck
def D.asBool : D → Res Bool
  | .bl i => .ok i
  | _ => .stuck
def D.asStr : D → Res Str
  | .str i => .ok i
  | _ => .stuck
def D.asList : D → Res (List D)
  | .lst i => .ok i
  | _ => .stuck
def D.asTu : D → Res (Tu D)
  | .tup i => .ok ⟨i⟩
  | _ => .stuck
def intsOf : List D → Res (List Int)
  | [] => .ok []
  | .int i :: r => (intsOf r).bind fun s => .ok (i :: s)
  | _ :: _ => .stuck
def D.asInts : D → Res (List Int)
  | .lst i => intsOf i
  | _ => .stuck
theorem asStr_ok : ∀ (x : D) (y : Str), x.asStr = .ok y → toD y = x
  | .str i, y, h => by cases h; rfl
theorem asStr_x (x : D) (c : Str) : x.asStr ≠ .exc c := by cases x <;> intro h <;> cases h
theorem asTu_ok : ∀ (x : D) (y : Tu D), x.asTu = .ok y → toD y = x
  | .tup i, y, h => by cases h; show D.tup (i.map fun x => x) = _; rw [List.map_id']
theorem asTu_x (x : D) (c : Str) : x.asTu ≠ .exc c := by cases x <;> intro h <;> cases h
/-- xs[lo:hi] -/
def cutL {α : Type} (xs : List α) (lo hi : Option Int) : List α := (xs.drop (HT.sIx xs.length 0 lo)).take (HT.sIx xs.length xs.length hi - HT.sIx xs.length 0 lo)
section
variable {K : PySem.W.Frag} {W : WX} {F0 H0 F H F' H' F1 : Hp} {rt : VK} {PT : En → Prop} {env env' : En} {α β γ τ : Type} [ToD α] [ToD β] [ToD γ] [ToD τ] [ToR τ] {KP : Res τ → Prop} {te ta tb tc : TE} {tt : TT} {Z : Ends} {t u : TS} {T : L2.St → Hp → Prop} {σ : L2.St}
theorem ev_cast {m : Res D} {f : D → Res α} (hf : ∀ x y, f x = .ok y → toD y = x) (hx : ∀ x c, f x ≠ .exc c) (h : EvX K W env te m) : EvX K W env te (m.bind f) := fun F0 H0 F H σ Q S k => by
  refine h F0 H0 F H σ _ S ?_
  cases m with
  | ok x =>
    intro v F1 H1 a r
    have k : KE K W F H σ Q (f x) := k
    cases e : f x with
    | ok y => rw [e] at k; exact k v F1 H1 a (by rw [hf x y e]; exact r)
    | exc c => exact absurd e (hx x c)
    | stuck => rw [e] at k; exact k.elim
  | exc c => exact k
  | stuck => exact k.elim
theorem blk_if2 {m : Res Bool} {a b : Res τ} (L : Lk K W F0 H0 rt PT KP) (hT : PT env) (hc : EvT K W env tt m) (h1 : Blk K F0 H0 KP (t Z) env a) (h2 : Blk K F0 H0 KP (u Z) env b) :
    Blk K F0 H0 KP (tIfS tt t u Z) env (m.bind fun c => cond c a b) := blk_if L hT hc h1 h2
theorem blk_ifj {S : Type} (envS : S → En) (k : S → Res τ) {m : Res Bool} {a b : Res τ} (L : Lk K W F0 H0 rt PT KP) (hT : PT env) (hc : EvT K W env tt m) (hr : ∀ s, Blk K F0 H0 KP Z.nx (envS s) (k s))
    (h1 : (∀ s, Blk K F0 H0 KP Z.nx (envS s) (k s)) → Blk K F0 H0 KP (t Z) env a) (h2 : (∀ s, Blk K F0 H0 KP Z.nx (envS s) (k s)) → Blk K F0 H0 KP (u Z) env b) :
    Blk K F0 H0 KP (tIfS tt t u Z) env (m.bind fun c => cond c a b) := blk_if L hT hc (h1 hr) (h2 hr)
end
/-- try: .. except X as n: .. -/
def tTry (K : PySem.W.Frag) (c : Value) (i : Nat) (ts : Addr → Value → Option Addr → TS) (W : WX) (tb : WX → TS) : TS := fun D σ H => tb (wAs K c i ts W D) D σ H
section
variable {X : Cx} {x n : Str} {i : Nat} {c : Value} {body suite : List Stmt} {b₀ : Stmt} {np pos pos' : Pos} {tb : WX → TS} {ts : Addr → Value → Option Addr → TS} {Wout : WX}
end
section
variable {K : PySem.W.Frag} {W : WX} {F0 H0 F H F' H' F1 : Hp} {rt : VK} {PT : En → Prop} {env env' : En} {τ : Type} [ToD τ] [ToR τ] {KP : Res τ → Prop} {Z : Ends}
end
section
variable {X : Cx}
end

/-! ### the errors' facts, by one Bool -/
def eqOV (a : Option (Option Value)) (b : Value) : Bool := decide (a = some (some b))
def excCB (K : PySem.W.Frag) (C : Addr) : Bool :=
  He.eqO (PySem.W.findIn K (.ref C) "__getattribute__") (some (some (.builtin "BaseException.__getattribute__"))) && (He.eqO (PySem.W.findIn K (.ref C) "__getattr__") (some none) && (decide (PySem.W.subIn K (.ref C) (.type "BaseException") = some true) && (PySem.W.hasDictIn K C &&
    (He.eqO (PySem.W.findIn K (.ref C) "__class__") (some (some (.builtin "object.__class__"))) && (He.eqO (PySem.W.specialIn K (.builtin "object.__class__") "__get__") (some (some (.builtin "getset_descriptor.__get__"))) &&
      (decide (PySem.W.takesIn K (.builtin "object.__class__") = some true) && decide (PySem.W.mroIn K C (.type "object") = some true)))))))
def clsB (K : PySem.W.Frag) (cs : List Str) (sub : Str → Str → Bool) : Bool := cs.all fun c => excCB K (He.ga K c) && ((cs.all fun d => decide (PySem.W.kitOne K (.ref (He.ga K c)) (.ref (He.ga K d)) = some (sub c d)) && decide (PySem.W.exmOne K (.ref (He.ga K c)) (.ref (He.ga K d)) = some (sub c d))) &&
  decide (PySem.W.kitOne K (.ref (He.ga K c)) (.type "ValueError") = some true))
end Mi
set_option maxHeartbeats 1000000
namespace Mi
open PySem PySem.Spec L2
open Evl (Ex)
theorem walk_end {l : PySem.W.OpenLaw} {n k : Nat} {q : Program} {loose : List Str} {XP : (Str → Option Value) → Heap → Prop} {YP : World → Heap → Prop} {d : PySem.DefRec} {x : Str} {m : Ro Int → Res Bool}
    (hn : l.most = some n) (hn2 : n ≤ sizeLine) (hdf : d.params.defaults = []) (hr : Room k PySem.callerA)
    (F : ∀ (w : World) (mg : Str → Option Value) (fa : Addr) (h : Heap), YP w h → h.Ns mainGlobals mg → mg d.name = some (.ref fa) →
      ∃ (K : PySem.W.Frag) (fd : FuncData), K.In h ∧ (∀ (s : Shared) (u : Value), PySem.BindsTo s fd ⟨[u], []⟩ [(x, u)]) ∧
        ∀ base : Heap, K.In base → base.Ns mainGlobals mg → FnOk l.prog w K mg base (L2.CX l.prog w) k fa fd [x] (spM K (fun (p : Ro Int × Unit) => m p.1)))
    (ht : ∀ ns : List Int, ns.length ≤ n → (∀ i ∈ ns, Builtin.Int.intBits i ≤ 1048576) → m ⟨ns⟩ = .ok true) :
    PySem.W.WalkO q loose XP YP l.row.toRowW d [] (fun f vs => PySem.call f vs) := by
  refine Att.attach_callB hn hdf fun w s₀ s₁ mg mb fa o pm cd doc a vs ns G Y ho hd hcd hmg hobj hints hlen hbits hg => ?_
  obtain ⟨K, fd, KX, hb, hF⟩ := F w mg fa _ Y G.T.g hmg
  refine law_call KX G.T.g G.T.b G.T.builtins G.T.nolimit hg hobj hints (Nat.le_trans hlen hn2) hr hF hb (fun H hO hS => ?_) fun H e s' z => ?_
  · refine ⟨H, (⟨ns⟩, ()), Ex.refl H, ⟨.ref a, [], rfl, ⟨a, ns.map V.int, rfl, hS, Reps.of_ints ns⟩, rfl⟩, ?_⟩
    show KE K _ H H [] _ (m ⟨ns⟩)
    rw [ht ns hlen hbits]
    exact fun v F' H' _ r => r
  · obtain ⟨_, _, _, _, _, _, _, _, _, _, _, _, z⟩ := z
    exact z
end Mi
set_option maxHeartbeats 1000000
namespace Mi
open PySem PySem.Spec L2
open Evl (Ex)
abbrev rLenS (K : PySem.W.Frag) : List V → Hp → VK → Prop := fun xs H Q => ∃ p ys, xs = [.ref p] ∧ (SqL K H p ys ∨ SqT K H p ys) ∧ Q (.int ys.length) H
theorem cr_len {X : Cx} {K : PySem.W.Frag} (h : X.K = K) : CallR X (.builtin "len") (rLenS K) := by
  subst h; exact call_len_seq
theorem cr_ixL {X : Cx} {K : PySem.W.Frag} (h : X.K = K) : IxR X (rIxL K) := by
  subst h; exact ix_list
theorem cr_ixT {X : Cx} {K : PySem.W.Frag} (h : X.K = K) : IxR X (rIxT K) := by
  subst h; exact ix_tup
theorem cr_slL {X : Cx} {K : PySem.W.Frag} (h : X.K = K) : SlR X (rSlL K) := by
  subst h; exact sl_list
section
variable {K : PySem.W.Frag} {W : WX} {F0 H0 F H F' H' F1 : Hp} {rt : VK} {PT : En → Prop} {env env' : En} {α β γ τ : Type} [ToD α] [ToD β] [ToD γ] [ToD τ] [ToR τ] {KP : Res τ → Prop} {te ta tb tc : TE} {tt : TT} {Z : Ends} {t u : TS} {T : L2.St → Hp → Prop} {σ : L2.St}
/-- the parts of a text of an error -/
def EvJ (K : PySem.W.Frag) (W : WX) (env : En) (ts : List TE) (N : Nat) (m : Res Unit) : Prop :=
  ∀ F0 H0 F H σ acc (Q : Str → Hp → Prop), Sl K F0 H0 F H σ env → acc.length + N ≤ sizeLine → KE K W F H σ (fun _ H' => ∀ out, Q out H') m → tJs ts acc σ H Q
end
end Mi
set_option maxHeartbeats 1000000
namespace Mi
open PySem PySem.Spec L2
open Evl (Ex)

/-! ### own classes: rules with what is raised at the caller's slots -/
section
variable {X : Cx} {CX : CXT} {k : Nat} {f C : Addr} {fd : FuncData} {ps : List Str} {sp : Sp} {E : L2.St → XK} {x m : Str} {p pos apos : Pos} {e o : Expr} {es : List Expr} {ta : TE} {t : TA}
def tMethQ (C : Addr) (m : Str) (sp : Sp) (E : L2.St → XK) (ta : TE) (t : TA) : TE := fun σ H Q => ta σ H fun x H1 => ∃ a dx fs, x = .ref a ∧ H1 a = some (.ins C dx fs) ∧ fs.lookup m = none ∧ t σ H1 fun vs H2 => sp (x :: vs) H2 Q (E σ)
def tMakeQ (C : Addr) (sp : Sp) (E : L2.St → XK) (t : TA) : TE := fun σ H Q => t σ H fun vs H1 => ∀ x dx, H1 x = none → H1 dx = none → dx ≠ x → sp (.ref x :: vs) (upd (upd H1 dx (.own x)) x (.ins C dx [])) (fun v H2 => v = .non ∧ Q (.ref x) H2) (E σ)
end

/-! ### fields by their place -/
def posK (f : Str) : List Str → Option Nat
  | [] => none
  | g :: r => if g = f then some 0 else (posK f r).map (· + 1)
section
variable {K : PySem.W.Frag} {W : WX} {F0 H0 F H F' H' F1 : Hp} {rt : VK} {PT : En → Prop} {env env' : En} {α β γ τ : Type} [ToD α] [ToD β] [ToD γ] [ToD τ] [ToR τ] {KP : Res τ → Prop} {te ta tb tc : TE} {tt : TT} {Z : Ends} {t u : TS} {T : L2.St → Hp → Prop} {σ : L2.St}
/-- the heap without an object that a def changes -/
def hide (H : Hp) (p : Addr) : Hp := fun q => if q = p then none else H q
theorem hide_ne {H : Hp} {p q : Addr} (h : q ≠ p) : hide H p q = H q := if_neg h
/-- the promise of an __init__ -/
def KIn (K : PySem.W.Frag) (F H : Hp) (p : Addr) (Q : VK) (E : XK) : Res α → Prop
  | .ok x => ∀ F' H', Adv F (hide H p) F' H' → Rep K F' (toD x) (.ref p) → Q .non H'
  | .exc c => ∀ F' H', Adv F (hide H p) F' H' → E (.ref (He.ga K c)) none H'
  | .stuck => False
def spI (K : PySem.W.Frag) (c : Str) {δ : Type} [ToDs δ] (f : δ → Res α) : Sp := fun vs H Q E => ∃ F y p dx ws, vs = .ref p :: ws ∧ Ex F H ∧ F p = none ∧ H p = some (.ins (He.ga K c) dx []) ∧ Reps K F (ToDs.ds y) ws ∧ KIn K F H p Q E (f y)
end
section
variable {P : Program} {w : World} {K : PySem.W.Frag} {mg : Str → Option Value} {base : Heap} {x qual : Str} {params : Arguments} {body : List Stmt} {scope : Scope} {dvs : List V} {kws : List (Str × V)} {f : Addr} {fd : FuncData}
end
end Mi
namespace Mi
open PySem PySem.Spec L2
open Evl (Ex)
structure T5 (α β γ δ ε : Type) where
  a : α
  b : β
  c : γ
  e : δ
  f : ε
structure T6 (α β γ δ ε ζ : Type) where
  a : α
  b : β
  c : γ
  e : δ
  f : ε
  g : ζ
structure T8 (α β γ δ ε ζ η θ : Type) where
  a : α
  b : β
  c : γ
  e : δ
  f : ε
  g : ζ
  h : η
  i : θ
instance {α β γ δ ε : Type} [ToD α] [ToD β] [ToD γ] [ToD δ] [ToD ε] : ToD (T5 α β γ δ ε) := ⟨fun x => .tup [ToD.d x.a, ToD.d x.b, ToD.d x.c, ToD.d x.e, ToD.d x.f]⟩
instance {α β γ δ ε ζ : Type} [ToD α] [ToD β] [ToD γ] [ToD δ] [ToD ε] [ToD ζ] : ToD (T6 α β γ δ ε ζ) := ⟨fun x => .tup [ToD.d x.a, ToD.d x.b, ToD.d x.c, ToD.d x.e, ToD.d x.f, ToD.d x.g]⟩
instance {α β γ δ ε ζ η θ : Type} [ToD α] [ToD β] [ToD γ] [ToD δ] [ToD ε] [ToD ζ] [ToD η] [ToD θ] : ToD (T8 α β γ δ ε ζ η θ) := ⟨fun x => .tup [ToD.d x.a, ToD.d x.b, ToD.d x.c, ToD.d x.e, ToD.d x.f, ToD.d x.g, ToD.d x.h, ToD.d x.i]⟩
def optGet {α : Type} : Option α → Res α
  | some x => .ok x
  | none => .stuck
theorem optGet_ok {α : Type} [ToD α] : ∀ (x : Option α) (y : α), optGet x = .ok y → toD y = toD x
  | some x, y, h => by cases h; rfl
  | none, y, h => by cases h
theorem optGet_x {α : Type} : ∀ (x : Option α) (c : Str), optGet x ≠ .exc c
  | some x, c, h => by cases h
  | none, c, h => by cases h
def D.asT1 : D → Res (T1 D)
  | .tup [a] => .ok ⟨a⟩
  | _ => .stuck
def D.asT2 : D → Res (T2 D D)
  | .tup [a, b] => .ok ⟨a, b⟩
  | _ => .stuck
def D.asT3 : D → Res (T3 D D D)
  | .tup [a, b, c] => .ok ⟨a, b, c⟩
  | _ => .stuck
def D.lenR : D → Res Int
  | .tup xs => .ok (xs.length : Int)
  | .lst xs => .ok (xs.length : Int)
  | _ => .stuck
section
variable {K : PySem.W.Frag} {W : WX} {F0 H0 F H F' H' F1 : Hp} {rt : VK} {PT : En → Prop} {env env' : En} {α β γ τ : Type} [ToD α] [ToD β] [ToD γ] [ToD τ] [ToR τ] {KP : Res τ → Prop} {te ta tb tc : TE} {tt : TT} {Z : Ends} {t u : TS} {T : L2.St → Hp → Prop} {σ : L2.St}
theorem ev_castG {m : Res α} {f : α → Res β} (hf : ∀ x y, f x = .ok y → toD y = toD x) (hx : ∀ x c, f x ≠ .exc c) (h : EvX K W env te m) : EvX K W env te (m.bind f) := fun F0 H0 F H σ Q S k => by
  refine h F0 H0 F H σ _ S ?_
  cases m with
  | ok x =>
    intro v F1 H1 a r
    have k : KE K W F H σ Q (f x) := k
    cases e : f x with
    | ok y => rw [e] at k; exact k v F1 H1 a (by rw [hf x y e]; exact r)
    | exc c => exact absurd e (hx x c)
    | stuck => rw [e] at k; exact k.elim
  | exc c => exact k
  | stuck => exact k.elim
theorem ev_lenD {m : Res D} (h : EvX K W env te m) : EvX K W env (tCB (rLenS K) (tCons te tNil)) (m.bind fun x => D.lenR x) := fun F0 H0 F H σ Q S k => by
  refine h F0 H0 F H σ _ S (KE.cut S.ex k fun x v F1 H1 e1 a1 r1 k1 => ?_)
  have k1 : KE K W F1 H1 σ Q (D.lenR x) := k1
  cases x with
  | tup xs =>
    obtain ⟨a, vs, rfl, h2, h3⟩ := r1
    refine ⟨a, vs, rfl, .inr (Evl.ex_t a1.in_ h2), ?_⟩
    have := k1 (.int xs.length) F1 H1 (Adv.refl a1.in_) rfl
    rw [← h3.length]; exact this
  | lst xs =>
    obtain ⟨a, vs, rfl, h2, h3⟩ := r1
    refine ⟨a, vs, rfl, .inl (sq_ex a1.in_ h2), ?_⟩
    have := k1 (.int xs.length) F1 H1 (Adv.refl a1.in_) rfl
    rw [← h3.length]; exact this
  | _ => exact k1.elim
end
end Mi
set_option maxHeartbeats 1000000
namespace Mi
open PySem PySem.Spec L2
open Evl (Ex)
def CPowX (i j : Int) : Prop := 0 ≤ j ∧ (Builtin.Int.intBits i : Int) * j ≤ 2 ^ 27
end Mi
namespace Mi
open PySem PySem.Spec L2
end Mi
set_option maxHeartbeats 1000000
namespace Mi
open PySem PySem.Spec L2
open Evl (Ex)
structure T7 (α β γ δ ε ζ η : Type) where
  a : α
  b : β
  c : γ
  e : δ
  f : ε
  g : ζ
  h : η
instance {α β γ δ ε ζ η : Type} [ToD α] [ToD β] [ToD γ] [ToD δ] [ToD ε] [ToD ζ] [ToD η] : ToD (T7 α β γ δ ε ζ η) := ⟨fun x => .tup [ToD.d x.a, ToD.d x.b, ToD.d x.c, ToD.d x.e, ToD.d x.f, ToD.d x.g, ToD.d x.h]⟩

/-! ### the module's constants -/
def tupB (K : PySem.W.Frag) (a : Addr) : Option (List Value) := match K.lookup a with
  | some o => match o.data with
    | .seq its n => if o.cls = .type "tuple" ∧ its.size ≤ sizeLine then some its.toList else none
    | _ => none
  | none => none
mutual
def repB (K : PySem.W.Frag) : D → Value → Bool
  | .non, u => decide (u = .none)
  | .bl b, u => decide (u = .bool b)
  | .int i, .int j _ => decide (j = i)
  | .str s, .str z _ => decide (z = s)
  | .ty n, u => decide (u = .type n)
  | .tup ds, .ref a => (match tupB K a with
    | some us => repsB K ds us
    | none => false)
  | _, _ => false
def repsB (K : PySem.W.Frag) : List D → List Value → Bool
  | [], us => us.isEmpty
  | d :: ds, u :: us => repB K d u && repsB K ds us
  | _ :: _, [] => false
end
theorem tupB_ok {K : PySem.W.Frag} {a : Addr} {us : List Value} (h : tupB K a = some us) {xs : List V} (r : Vals xs us) (F : Hp) : SqT K F a xs := by
  unfold tupB at h
  split at h
  · rename_i o e
    split at h
    · rename_i its n ed
      split at h
      · rename_i hc
        cases h
        exact .inr ⟨o, its, n, e, hc.1, ed, hc.2, r⟩
      · cases h
    · cases h
  · cases h
mutual
theorem repB_ok {K : PySem.W.Frag} : ∀ (d : D) (u : Value), repB K d u = true → ∃ v, RelV v u ∧ ∀ F, Rep K F d v
  | .non, u, h => ⟨.non, (of_decide_eq_true (show decide (u = Value.none) = true from h) : u = Value.none), fun _ => rfl⟩
  | .bl b, u, h => ⟨.bl b, (of_decide_eq_true (show decide (u = Value.bool b) = true from h) : u = Value.bool b), fun _ => rfl⟩
  | .ty n, u, h => ⟨.ty n, (of_decide_eq_true (show decide (u = Value.type n) = true from h) : u = Value.type n), fun _ => rfl⟩
  | .int i, u, h => by
    cases u with
    | int j t => exact ⟨.int i, ⟨t, by rw [of_decide_eq_true (show decide (j = i) = true from h)]⟩, fun _ => rfl⟩
    | _ => cases h
  | .str s, u, h => by
    cases u with
    | str z t => exact ⟨.str s, ⟨t, by rw [of_decide_eq_true (show decide (z = s) = true from h)]⟩, fun _ => rfl⟩
    | _ => cases h
  | .tup ds, u, h => by
    cases u with
    | ref a =>
      rw [repB] at h
      split at h
      · rename_i us e
        obtain ⟨xs, r, hr⟩ := repsB_ok ds us h
        exact ⟨.ref a, rfl, fun F => ⟨a, xs, rfl, tupB_ok e r F, hr F⟩⟩
      · cases h
    | _ => cases h
  | .lst ds, u, h => by cases u <;> cases h
  | .obj c ks ds, u, h => by cases u <;> cases h
  | .ro ds, u, h => by cases u <;> cases h
  | .dct ks ds, u, h => by cases u <;> cases h
theorem repsB_ok {K : PySem.W.Frag} : ∀ (ds : List D) (us : List Value), repsB K ds us = true → ∃ xs, Vals xs us ∧ ∀ F, Reps K F ds xs
  | [], us, h => by
    cases us with
    | nil => exact ⟨[], .nil, fun _ => rfl⟩
    | cons u us => cases h
  | d :: ds, us, h => by
    cases us with
    | nil => cases h
    | cons u us =>
      rw [repsB] at h
      obtain ⟨h1, h2⟩ := He.ba h
      obtain ⟨v, r, hv⟩ := repB_ok d u h1
      obtain ⟨xs, rs, hx⟩ := repsB_ok ds us h2
      exact ⟨v :: xs, .cons r rs, fun F => ⟨v, xs, rfl, hv F, hx F⟩⟩
end
def conB (K : PySem.W.Frag) (cs : List (Str × D)) : Bool := cs.all fun c => match PySem.W.nsIn K mainGlobals c.1 with
  | some (some u) => repB K c.2 u
  | _ => false
/-- a name of the module that stands for data -/
def ConF (K : PySem.W.Frag) (mg : Str → Option Value) (x : Str) (d : D) : Prop := ∃ u v, mg x = some u ∧ RelV v u ∧ ∀ F, Rep K F d v
theorem con_of {K : PySem.W.Frag} {h : Heap} {mg : Str → Option Value} {cs : List (Str × D)} (X : K.In h) (G : h.Ns mainGlobals mg) (c : conB K cs = true) {x : Str} {d : D} (m : (x, d) ∈ cs) : ConF K mg x d := by
  have q := List.all_eq_true.mp c _ m
  dsimp only at q
  split at q
  · rename_i u e
    obtain ⟨v, r, hv⟩ := repB_ok d u q
    exact ⟨u, v, PySem.W.mg_of X G e, r, hv⟩
  · cases q
section
variable {K : PySem.W.Frag} {mg : Str → Option Value} {x : Str} {d : D}
noncomputable def ConF.u (h : ConF K mg x d) : Value := h.choose
noncomputable def ConF.v (h : ConF K mg x d) : V := h.choose_spec.choose
theorem ConF.m (h : ConF K mg x d) : mg x = some h.u := h.choose_spec.choose_spec.1
theorem ConF.r (h : ConF K mg x d) : RelV h.v h.u := h.choose_spec.choose_spec.2.1
theorem ConF.p (h : ConF K mg x d) (F : Hp) : Rep K F d h.v := h.choose_spec.choose_spec.2.2 F
theorem ev_con {α : Type} [ToD α] {W : WX} {env : En} {z : α} (h : ConF K mg x (toD z)) : EvX K W env (tC h.v) (.ok z) := fun F0 H0 F H σ Q S k => k _ F H (Adv.refl S.ex) (h.p F)
end
/-! ### lists that are only read -/
section
variable {K : PySem.W.Frag} {W : WX} {F0 H0 F H F' H' F1 : Hp} {env : En} {α β γ : Type} [ToD α] [ToD β] [ToD γ] {te ta tb : TE}
theorem opx_ixR : OpX K (rIxL K) (fun (xs : Ro α) (i : Int) => idx xs.xs i) := fun F H xs i v u Q e h1 h2 k => by
  obtain ⟨a, vs, rfl, hl, hr⟩ := h1
  cases (show u = V.int i from h2)
  dsimp only [idx] at k
  cases q : atI xs.xs i with
  | none => rw [q] at k; exact k.elim
  | some x =>
    rw [q] at k
    obtain ⟨w, hw, rw_⟩ := Reps.at (i := i) hr (x := toD x) (by rw [atI_map, q]; rfl)
    exact ⟨a, vs, i, w, rfl, rfl, Evl.ex_l e hl, hw, k _ F H (Adv.refl e) rw_⟩
theorem cx_lenRo : CrX K (rLenS K) (fun (p : Ro α × Unit) => .ok (p.1.xs.length : Int)) := fun F H x vs Q e r k => by
  obtain ⟨v, rs, rfl, r1, r2⟩ := r
  cases (show rs = [] from r2)
  obtain ⟨a, ws, rfl, hl, hr⟩ := r1
  refine ⟨a, ws, rfl, .inl (Evl.ex_l e hl), ?_⟩
  have := k (.int (x.1.xs.length : Int)) F H (Adv.refl e) rfl
  have l := hr.length
  rw [List.length_map] at l
  rw [← l]; exact this
/-! ### joined and repeated lists -/
theorem en_cat {m1 m2 : Res (List α)} (ha : EvX K W env ta m1) (hb : EvX K W env tb m2) : EvN K W env (tOp rCat ta tb) (m1.bind fun x => m2.bind fun y => .need (x.length + y.length ≤ 16777216) (.ok (x ++ y))) := fun F0 H0 F H σ Q S k => by
  refine ha F0 H0 F H σ _ S ?_
  cases m1 with
  | ok x =>
    intro v F1 H1 a1 r1
    refine hb F0 H0 F1 H1 σ _ (S.step a1) ?_
    cases m2 with
    | ok y =>
      intro u F2 H2 a2 r2
      have k : KN K W F H σ Q (Res.need (x.length + y.length ≤ 16777216) (.ok (x ++ y))) := k
      by_cases c : x.length + y.length ≤ 16777216
      · rw [Res.need_pos c] at k
        obtain ⟨p, vs, rfl, h1, h2⟩ := r1
        obtain ⟨q, ws, rfl, g1, g2⟩ := r2
        have l1 := h2.length
        have l2 := g2.length
        rw [List.length_map] at l1 l2
        refine ⟨p, q, vs, ws, rfl, rfl, a2.h _ _ (a1.in_ _ _ h1), a2.in_ _ _ g1, ?_, fun z hz => ?_⟩
        · rw [← l1, ← l2]; exact c
        · refine k z (vs ++ ws) F2 _ ((a1.trans a2).trans (Adv.newO a2.in_ hz)) (Evl.fresh_back (a1.trans a2).h hz) (none_of_ex a2.in_ hz) upd_same ?_
          rw [List.map_append]
          exact Reps.append (Reps.mono a2.f _ _ h2) g2
      · rw [Res.need_neg c] at k; exact k.elim
    | exc c => exact fun F2 H2 a2 => k F2 H2 (a1.trans a2)
    | stuck => exact k.elim
  | exc c => exact k
  | stuck => exact k.elim
theorem Reps.flat {xs : List D} {vs : List V} (h : Reps K F xs vs) : ∀ n : Nat, Reps K F (List.replicate n xs).flatten (List.replicate n vs).flatten
  | 0 => rfl
  | n + 1 => by
    rw [List.replicate_succ, List.replicate_succ, List.flatten_cons, List.flatten_cons]
    exact Reps.append h (Reps.flat h n)
def RepOk (n : Nat) (k : Int) : Prop := -(2 ^ 63) ≤ k ∧ k < 2 ^ 63 ∧ n * k.toNat ≤ 16777216
end
end Mi
set_option maxHeartbeats 1000000
namespace Mi
open PySem PySem.Spec L2 PyProof.Rows
open Evl (Ex)
/-! ### xs[i] += e -/
def rGetL : V → V → Hp → VK → Prop := fun o i H Q => ∃ p xs k v, o = .ref p ∧ i = .int k ∧ H p = some (.lst xs) ∧ 0 ≤ k ∧ xs[k.toNat]? = some v ∧ Q v H
section
variable {K : PySem.W.Frag} {W : WX} {F0 H0 F H F' H' F1 : Hp} {rt : VK} {PT : En → Prop} {env env' : En} {τ : Type} [ToD τ] [ToR τ] {KP : Res τ → Prop} {te ta tb tc : TE} {Z : Ends}
end
end Mi
set_option maxHeartbeats 1000000
namespace Mi
open PySem PySem.Spec L2
open Evl (Ex)
section
variable {K : PySem.W.Frag}
theorem flat_strV : ∀ ns : List Str, (ns.map V.str).all flatV = true
  | [] => rfl
  | n :: ns => by rw [List.map_cons, List.all_cons, flat_strV ns]; rfl
theorem in_strV (x : Str) : ∀ ns : List Str, inV (.str x) (ns.map V.str) = decide (x ∈ ns)
  | [] => by simp [inV]
  | n :: ns => by
    have ih := in_strV x ns
    unfold inV at ih ⊢
    rw [List.map_cons, List.any_cons, ih]
    by_cases h : x = n
    · subst h; simp [eqV]
    · have : (n == x) = false := by simp; exact fun z => h z.symm
      simp [eqV, h, this]
/-- what holds items -/
class Holds (σ : Type) (α : Type) [ToD α] [ToD σ] where
  xs : σ → List α
  at_ : ∀ (K : PySem.W.Frag) (F H : Hp) (y : σ) (u : V), Ex F H → Rep K F (toD y) u → ∃ p vs, u = .ref p ∧ (SqL K H p vs ∨ SqT K H p vs) ∧ Reps K F ((xs y).map toD) vs
instance {α : Type} [ToD α] : Holds (List α) α := ⟨fun x => x, fun K F H y u e h => by
  obtain ⟨a, vs, rfl, hl, hr⟩ := h
  exact ⟨a, vs, rfl, .inl (sq_ex e hl), hr⟩⟩
instance {α : Type} [ToD α] : Holds (Ro α) α := ⟨fun x => x.xs, fun K F H y u e h => by
  obtain ⟨a, vs, rfl, hl, hr⟩ := h
  exact ⟨a, vs, rfl, .inl (Evl.ex_l e hl), hr⟩⟩
instance {α : Type} [ToD α] : Holds (Tu α) α := ⟨fun x => x.xs, fun K F H y u e h => by
  obtain ⟨a, vs, rfl, hl, hr⟩ := h
  exact ⟨a, vs, rfl, .inr (Evl.ex_t e hl), hr⟩⟩
theorem opx_inS {σ : Type} [ToD σ] [Hd : Holds σ Str] (neg : Bool) : OpX K (rIn K neg) (fun (x : Str) (ys : σ) => .ok (if neg then !decide (x ∈ Hd.xs ys) else decide (x ∈ Hd.xs ys))) := fun F H x y v u Q e h1 h2 k => by
  obtain ⟨p, vs, rfl, hq, hr⟩ := Hd.at_ K F H y u e h2
  cases (show v = V.str x from h1)
  have hr : Reps K F ((Hd.xs y).map D.str) vs := hr
  have q := hr.strs
  subst q
  refine ⟨p, _, rfl, hq, rfl, flat_strV _, ?_⟩
  rw [in_strV]
  exact k _ F H (Adv.refl e) rfl
end
end Mi
set_option maxHeartbeats 1000000
namespace Mi
open PySem PySem.Spec PyProof.Rows L2
open Evl (Ex)
/-! ### a method whose last row is super().__init__(..) -/
structure FnScopeS (N P : List Str) (sc : Scope) : Prop where
  kind : sc.kind = .function
  co : sc.isCoroutine = false
  gen : sc.isGenerator = false
  nd : N.Nodup
  pre : N.take P.length = P
  par : ∀ x ∈ P, sc.names.lookup x = some .local
  nocell : ∀ y ∈ sc.names, y.2 ≠ .cell
  only : ∀ y ∈ sc.names, y.2 = .free → y.1 = ("__class__" : Str)
  sup : sc.names.lookup ("super" : Str) = some .globalImplicit
  cls : sc.names.lookup ("__class__" : Str) = some .free
/-- where it stands -/
structure FunS (K : PySem.W.Frag) (x qual : Str) (params : Arguments) (body : List Stmt) (scope : Scope) (f cc cda D : Addr) (file : Str) (fd : FuncData) : Prop where
  ex : ∃ (oc : Value) (od : Option Addr) (doc pm : Value) (an : Option Addr) (ct : Value) (osl : Array (Option Value)), fd = PySem.W.ksFn x qual params body scope .none .none doc pm an (.ref cda) ct cc ∧ K.lookup f = some ⟨oc, od, .func fd, osl⟩ ∧ PySem.W.codeIn K (.ref cda) qual = true
  kp : PySem.W.keepIn K (.ref f) = true
  code : ∃ (ccl : Value) (cdd : Option Addr) (vs : Array Value) (ccs : Array (Option Value)) (tf : Tok), K.lookup cda = some ⟨ccl, cdd, .fields vs, ccs⟩ ∧ vs[2]? = some (.str file tf)
  cell : ∃ (cl : Value) (cld : Option Addr) (csl : Array (Option Value)), K.lookup cc = some ⟨cl, cld, .cell (some (.ref D)), csl⟩
/-- what super().__init__ of an instance of C, from within D, comes to: g -/
structure SupF (K : PySem.W.Frag) (C D g : Addr) : Prop where
  dcl : ∃ cd, PySem.W.clsIn K D = some cd
  ccl : ∃ cd, PySem.W.clsIn K C = some cd
  sub : PySem.W.mroIn K C (.ref D) = some true
  op : PySem.W.nsIn K cStatics "thirdparty.any" = some none
  mt : PySem.W.ks_superIn K C D "__init__" = some (some (.ref g))
  ty : PySem.W.typeIn K (.ref g) = some (.type "function")
  fi : PySem.W.fnIn K g = true
abbrev envS (qual : Str) (scope : Scope) (L a : Addr) (cda cc : Addr) : Env := PySem.W.ksEnv qual scope L a (.ref cda) cc
def cxS (CX : CXT) (P : Program) (w : World) (K : PySem.W.Frag) (mg : Str → Option Value) (base : Heap) (N : List Str) (qual : Str) (scope : Scope) (f cda cc : Addr) (A : Around) (outer : List Env) (s : Shared) (H : Hp) (E : XK) : Cx where
  prog := P
  w := w
  K := K
  mg := mg
  base := base
  A := A.deeper (envS qual scope s.heap.objs.size f cda cc)
  N := N
  s_0 := s
  H_0 := H
  env := envS qual scope s.heap.objs.size f cda cc
  outer := outer
  stack := envS qual scope s.heap.objs.size f cda cc :: outer
  ex := []
  calm := true
  fn := fun _ => false
  pn := []
  xe := fun e s' => wpAny (model P w) (A.deeper (envS qual scope s.heap.objs.size f cda cc)) (leaving (envS qual scope s.heap.objs.size f cda cc) e) (fun _ s'' => CX outer H s E e s'') (fun e' s'' => CX outer H s E e' s'') s'
/-- rows of a body that runs as such -/
structure PSf (X : Cx) (c : Code) (st : List Stmt) (t : TS) : Prop where
  run : ∀ (pins : List (Addr × Obj)) (s : Shared) (σ : L2.St) (H : Hp) (D : Ends), Inv X pins σ H s → t D σ H → _root_.PySem.wpAt (model X.prog X.w) X.A c (execs st X.env) (SP X pins D) X.xe s
/-- super().__init__(..), the last row -/
def tSuper (C g : Addr) (sp : Sp) (E : XK) (t : TA) : TS := fun D σ H => ∃ p dx fs, σ[0]? = some (some (.ref p)) ∧ H p = some (.ins C dx fs) ∧ t σ H fun vs H1 => sp (.ref p :: vs) H1 (fun _ H2 => D.nx σ H2) E
end Mi
set_option maxHeartbeats 1000000
namespace Mi
open PySem PySem.Spec PyProof.Rows L2
open Evl (Ex)
/-! ### what the head tells -/
abbrev FnC : Type := Option (Str × Str × Arguments × FuncBody × Scope × Addr × List Str × Value × Value × Addr)
/-- a method that says super(): its class, the def's place in it -/
structure SupD where
  cls : Str
  name : Str
  qual : Str
  params : Arguments
  body : List Stmt
  scope : Scope
  file : Str
def SupD.val (d : SupD) : FnC := some (d.name, d.qual, d.params, .stmts d.body, d.scope, mainGlobals, [("__class__" : Str)], .none, .none, builtinsNs)
def SupD.ad (K : PySem.W.Frag) (d : SupD) : Addr := He.ma K (He.ga K d.cls) d.name
def fnC (K : PySem.W.Frag) (a : Addr) : FnC := match K.lookup a with
  | some o => (match o.data with
    | .func fd => some (fd.name, fd.qualname, fd.params, fd.body, fd.scope, fd.globals, fd.closure.map (·.1), fd.defaults, fd.kwdefaults, fd.builtins)
    | _ => none)
  | none => none
def fnData (K : PySem.W.Frag) (a : Addr) : Option FuncData := match K.lookup a with
  | some o => (match o.data with
    | .func fd => some fd
    | _ => none)
  | none => none
def cellB (K : PySem.W.Frag) (c D : Addr) : Bool := match K.lookup c with
  | some o => (match o.data with
    | .cell (some (.ref d)) => d == D
    | _ => false)
  | none => false
def codeB (K : PySem.W.Frag) (c : Addr) (file : Str) : Bool := match K.lookup c with
  | some o => (match o.data with
    | .fields vs => (match (vs[2]? : Option Value) with
      | some (.str z _) => decide (z = file)
      | _ => false)
    | _ => false)
  | none => false
def SupD.ok (K : PySem.W.Frag) (d : SupD) : Bool := PySem.W.keepIn K (.ref (d.ad K)) && (match fnData K (d.ad K) with
  | some fd => PySem.W.codeIn K fd.code d.qual && (match fd.code, fd.closure with
    | .ref c, [(_, cc)] => codeB K c d.file && cellB K cc (He.ga K d.cls)
    | _, _ => false)
  | none => false)
theorem lookO {K : PySem.W.Frag} {a : Addr} {o : Obj} (h : K.lookup a = some o) {dt : Data} (e : o.data = dt) : K.lookup a = some ⟨o.cls, o.dict, dt, o.slots⟩ := by rw [h, ← e]
theorem cellB_ok {K : PySem.W.Frag} {c D : Addr} (h : cellB K c D = true) : ∃ (cl : Value) (cld : Option Addr) (csl : Array (Option Value)), K.lookup c = some ⟨cl, cld, .cell (some (.ref D)), csl⟩ := by
  unfold cellB at h
  split at h
  · rename_i o q
    split at h
    · rename_i d e
      have : d = D := beq_iff_eq.mp h
      subst this
      exact ⟨_, _, _, lookO q e⟩
    · cases h
  · cases h
theorem codeB_ok {K : PySem.W.Frag} {c : Addr} {file : Str} (h : codeB K c file = true) : ∃ (ccl : Value) (cdd : Option Addr) (vs : Array Value) (ccs : Array (Option Value)) (tf : Tok), K.lookup c = some ⟨ccl, cdd, .fields vs, ccs⟩ ∧ vs[2]? = some (.str file tf) := by
  unfold codeB at h
  split at h
  · rename_i o q
    split at h
    · rename_i vs e
      split at h
      · rename_i z t e2
        have : z = file := of_decide_eq_true h
        subst this
        exact ⟨_, _, _, _, _, lookO q e, e2⟩
      · cases h
    · cases h
  · cases h
theorem supD_ok {K : PySem.W.Frag} {d : SupD} (e : fnC K (d.ad K) = d.val) (h : d.ok K = true) : ∃ fd cc cda, FunS K d.name d.qual d.params d.body d.scope (d.ad K) cc cda (He.ga K d.cls) d.file fd := by
  unfold SupD.ok at h
  obtain ⟨kp, h⟩ := He.ba h
  split at h
  · rename_i fd q
    obtain ⟨hc, h⟩ := He.ba h
    unfold fnData at q
    split at q
    · rename_i o lk
      split at q
      · rename_i fd' e1
        cases q
        unfold fnC at e
        rw [lk] at e
        dsimp only at e
        rw [e1] at e
        split at h
        · rename_i c y cc e2 e3
          obtain ⟨h1, h2⟩ := He.ba h
          obtain ⟨n1, n2, n3, n4, n5, n6, n7, n8, n9, n10, n11, n12, n13, n14, n15⟩ := fd
          dsimp only at e2 e3 hc
          subst e2 e3
          unfold SupD.val at e
          simp only [Option.some.injEq, Prod.mk.injEq, List.map_cons, List.map_nil, List.cons.injEq, and_true] at e
          obtain ⟨r1, r2, r3, r4, r5, r6, r7, r8, r9, r10⟩ := e
          subst r1 r2 r3 r4 r5 r6 r7 r8 r9 r10
          exact ⟨_, cc, c, ⟨_, _, _, _, _, _, _, rfl, lookO lk e1, hc⟩, kp, codeB_ok h1, cellB_ok h2⟩
        · cases h
      · cases q
    · cases q
  · cases h
/-- super().__init__ of an instance of c within D: which def -/
def supB (K : PySem.W.Frag) (c D g : Str) : Bool := (PySem.W.clsIn K (He.ga K D)).isSome && ((PySem.W.clsIn K (He.ga K c)).isSome && (decide (PySem.W.mroIn K (He.ga K c) (.ref (He.ga K D)) = some true) && (He.eqO (PySem.W.nsIn K cStatics "thirdparty.any") (some none) &&
  (He.eqO (PySem.W.ks_superIn K (He.ga K c) (He.ga K D) "__init__") (some (some (.ref (He.ma K (He.ga K g) "__init__")))) && (decide (PySem.W.typeIn K (.ref (He.ma K (He.ga K g) "__init__")) = some (.type "function")) && PySem.W.fnIn K (He.ma K (He.ga K g) "__init__"))))))
/-! ### dicts of the top with text keys -/
def tabB (K : PySem.W.Frag) (a : Addr) (kvs : List (Str × D)) : Bool := kvs.all fun q => match PySem.W.nsIn K a q.1 with
  | some (some u) => repB K q.2 u
  | _ => false
/-- a name of the module that stands for such a dict -/
structure TabF (K : PySem.W.Frag) (w : World) (mg : Str → Option Value) (x : Str) (kvs : List (Str × D)) : Prop where
  m : mg x = some (.ref (He.ga K x))
  d : ∃ es n, KDict K w (He.ga K x) es n
  hit : ∀ z d, kvs.lookup z = some d → ∃ u v, PySem.W.nsIn K (He.ga K x) z = some (some u) ∧ RelV v u ∧ ∀ F, Rep K F d v
  miss : ∀ z, kvs.lookup z = none → PySem.W.nsIn K (He.ga K x) z = some none
/-! ### the hook -/
abbrev AlY : Type := He.AlT × Bool × List FnC
def asY (g : Addr → Option Obj) (n : Nat) : List Addr := He.asD g n ++ [cStatics]
def obsY (n : Nat) (fa : List He.Fa) (fn : List He.DefD) (ts : List He.Tab) (ss : List SupD) (ex : PySem.W.Frag → Bool) (g : Addr → Option Obj) : AlY :=
  (He.obsT fa fn ts (He.frT g (asY g n)), ex (He.frT g (asY g n)) && ss.all (SupD.ok (He.frT g (asY g n))), ss.map fun d => fnC (He.frT g (asY g n)) (d.ad (He.frT g (asY g n))))
def valY (fn : List He.DefD) (ts : List He.Tab) (ss : List SupD) (w : World) : AlY := (He.valT fn ts w, true, ss.map SupD.val)
structure SaysY (fa : List He.Fa) (fn : List He.DefD) (ts : List He.Tab) (ss : List SupD) (ex : PySem.W.Frag → Bool) (w : World) (K : PySem.W.Frag) : Prop where
  t : He.SaysT fa fn ts w K
  more : ex K = true
  sup : ∀ d ∈ ss, ∃ fd cc cda, FunS K d.name d.qual d.params d.body d.scope (d.ad K) cc cda (He.ga K d.cls) d.file fd
theorem saysY_of {n : Nat} {fa : List He.Fa} {fn : List He.DefD} {ts : List He.Tab} {ss : List SupD} {ex : PySem.W.Frag → Bool} {w : World} {h : Heap} (e : obsY n fa fn ts ss ex h.get? = valY fn ts ss w) : SaysY fa fn ts ss ex w (He.frT h.get? (asY h.get? n)) := by
  have e2 : (ex (He.frT h.get? (asY h.get? n)) && ss.all (SupD.ok (He.frT h.get? (asY h.get? n)))) = true := congrArg (fun z : AlY => z.2.1) e
  have e3 : (ss.map fun d => fnC (He.frT h.get? (asY h.get? n)) (d.ad (He.frT h.get? (asY h.get? n)))) = ss.map SupD.val := congrArg (fun z : AlY => z.2.2) e
  obtain ⟨h1, h2⟩ := He.ba e2
  exact ⟨congrArg (fun z : AlY => z.1) e, h1, fun d hd => supD_ok (List.map_inj_left.mp e3 d hd) (List.all_eq_true.mp h2 d hd)⟩
def hookY (n : Nat) (fa : List He.Fa) (fn : List He.DefD) (ts : List He.Tab) (ss : List SupD) (ex : PySem.W.Frag → Bool) : PySem.W.Hook where
  α := AlY
  obs := fun s => obsY n fa fn ts ss ex s.heap.get?
  val := fun w => valY fn ts ss w
  says := fun w h => ∃ K : PySem.W.Frag, K.In h ∧ SaysY fa fn ts ss ex w K
  of := fun _ _ e => ⟨_, He.frT_in, saysY_of e⟩
  keeps := fun _ _ _ ⟨K, hK, c⟩ k => ⟨K, PySem.W.Frag.In.keeps hK k, c⟩
/-! ### a dict of the top, read -/
def dget {α : Type} (kvs : List (Str × α)) (z : Str) : Res α := match kvs.lookup z with
  | some x => .ok x
  | none => .stuck
def din {α : Type} (kvs : List (Str × α)) (z : Str) : Bool := (kvs.lookup z).isSome
abbrev tabD {α : Type} [ToD α] (kvs : List (Str × α)) : List (Str × D) := kvs.map fun p => (p.1, toD p.2)
def rInD (K : PySem.W.Frag) (a : Addr) (neg : Bool) : R2 := fun x y H Q => ∃ (z : Str) (r : Option Value), x = .str z ∧ y = .ref a ∧ PySem.W.nsIn K a z = some r ∧ Q (.bl (if neg then !r.isSome else r.isSome)) H
section
variable {K : PySem.W.Frag} {w : World} {mg : Str → Option Value} {x : Str} {kvs : List (Str × D)}
variable {W : WX} {env : En} {te : TE} {α : Type} [ToD α] {l : List (Str × α)}
end
/-! ### one of two -/
inductive Un (α β : Type) where
  | l (x : α) | r (y : β)
instance {α β : Type} [ToD α] [ToD β] : ToD (Un α β) := ⟨fun u => match u with | .l x => ToD.d x | .r y => ToD.d y⟩
def Un.asL {α β : Type} : Un α β → Res α
  | .l x => .ok x
  | .r _ => .stuck
def Un.asR {α β : Type} : Un α β → Res β
  | .l _ => .stuck
  | .r y => .ok y
section
variable {α β : Type} [ToD α] [ToD β]
end
def orR {α : Type} : Res α → Res α → Res α
  | .stuck, m => m
  | .ok x, _ => .ok x
  | .exc c, _ => .exc c
def tAlt (ta tb : TE) : TE := fun σ H Q => ta σ H Q ∨ tb σ H Q
/-! ### super().__init__ in blocks -/
theorem FunS.bindsN {K : PySem.W.Frag} {x qual : Str} {params : Arguments} {body : List Stmt} {scope : Scope} {f cc cda D : Addr} {file : Str} {fd : FuncData} {ps : List Str} (F : FunS K x qual params body scope f cc cda D file fd)
    (h : ∀ (doc pm : Value) (an : Option Addr) (ct : Value) (us : List Value), us.length = ps.length → bindArgs (PySem.W.ksFn x qual params body scope .none .none doc pm an (.ref cda) ct cc) ⟨us, []⟩ = pure (ps.zip us)) : Binds K fd ps [] := by
  obtain ⟨oc, od, doc, pm, an, ct, osl, rfl, lk, hcd⟩ := F.ex
  exact .all (h doc pm an ct)
section
variable {P : Program} {w : World} {K : PySem.W.Frag} {mg : Str → Option Value} {base : Heap} {x qual file : Str} {params : Arguments} {body : List Stmt} {scope : Scope} {f cc cda D : Addr} {fd : FuncData}
end
/-! ### the head's run, looked at in two pieces -/
section
open PySem.W PySem.Calls PyProof.Rows HandSHeadRun
def RunOb {β : Type} (P : Program) (f : SharedT → β) (M : Nat) (w : World) (v : β) : Prop := ∀ os : OsState, (endF (stepQ (denQ tabQ) P w) M P w os).map f = some v
noncomputable abbrev seeOb (r : OpenRow) (q : Program) (loose : List PySem.Str) (w : World) :=
  fun s : SharedT => (looksF r.prog (boot_heap w.params) s.abs, seenQ q loose (importedModules r.prog.main.body) (fun s => xlAt q [] s && recOk r.toRowW.records s) s.abs)
end
end Mi
set_option maxHeartbeats 1000000
namespace Mi
open PySem PySem.Spec L2
/-! ### a try of several clauses without names; statements that are never reached -/
/-- the outcome of the clauses for an error of class c -/
def pickR {τ : Type} (sub : Str → Str → Bool) (c : Str) : List (Str × Res τ) → Res τ
  | [] => .exc c
  | (x, m) :: r => if sub c x = true then m else pickR sub c r
def tryM {S τ : Type} (known : Str → Bool) (sub : Str → Str → Bool) (m : Res (Fall S τ)) (rest : S → Res τ) (hs : List (Str × Res τ)) : Res τ := match m with
  | .ok (.go s) => rest s
  | .ok (.back x) => .ok x
  | .exc c => if known c = true then pickR sub c hs else .stuck
  | .stuck => .stuck
def tTryM (K : PySem.W.Frag) (l : List (Value × (Addr → Value → Option Addr → TS))) (W : WX) (tb : WX → TS) : TS := fun D σ H => tb (wMany K W D l) D σ H
section
variable {X : Cx} {body : List Stmt} {h₀ : ExceptHandler} {hds : List ExceptHandler} {l : List (Value × (Addr → Value → Option Addr → TS))} {pos : Pos} {tb : WX → TS} {Wout : WX}
end
section
variable {K : PySem.W.Frag} {W : WX} {F0 H0 F H : Hp} {rt : VK} {PT : En → Prop} {env env' : En} {τ : Type} [ToD τ] [ToR τ] {KP : Res τ → Prop} {Z : Ends}
inductive HdB (K : PySem.W.Frag) (F0 H0 : Hp) {τ : Type} (KP : Res τ → Prop) (Z : Ends) (env : En) (cs : List Str) : List (Value × (Addr → Value → Option Addr → TS)) → List (Str × Res τ) → Prop
  | nil : HdB K F0 H0 KP Z env cs [] []
  | cons {x : Str} {ts : Addr → Value → Option Addr → TS} {mh : Res τ} {l : List (Value × (Addr → Value → Option Addr → TS))} {hs : List (Str × Res τ)} (hx : x ∈ cs)
      (hb : ∀ (a : Addr) (cls : Value), Blk K F0 H0 KP (ts a cls none Z) env mh) (r : HdB K F0 H0 KP Z env cs l hs) : HdB K F0 H0 KP Z env cs ((.ref (He.ga K x), ts) :: l) ((x, mh) :: hs)
theorem HdB.go {cs : List Str} {sub : Str → Str → Bool} {c : Str} {σ : L2.St} (L : Lk K W F0 H0 rt PT KP) (hT : PT env) (C : Cls K cs sub) (hc : c ∈ cs) (S2 : Sl K F0 H0 F H σ env) :
    ∀ {l : List (Value × (Addr → Value → Option Addr → TS))} {hs : List (Str × Res τ)}, HdB K F0 H0 KP Z env cs l hs → KP (pickR sub c hs) → wMany K W Z l (.ref (He.ga K c)) none σ H
  | _, _, .nil, h => L.exc c F H σ env h hT S2
  | _, _, .cons (x := x) (mh := mh) (hs := hs) hx hb r, h => by
    have h : KP (if sub c x = true then mh else pickR sub c hs) := h
    refine ⟨sub c x, C.exm c hc x hx, fun q a ha => ?_, fun q => ?_⟩
    · rw [if_pos q] at h
      exact hb a _ F H σ S2 h
    · rw [if_neg (by rw [q]; decide)] at h
      exact HdB.go L hT C hc S2 r h
end
end Mi
set_option maxHeartbeats 1000000
namespace Mi
open PySem PySem.Spec L2
/-! ### zip of two lists; texts in the text of an error -/
theorem pi_zipK {X : Cx} {K : PySem.W.Frag} {e e2 : Expr} {ta : TA} {p pos tpos : Pos} {elts : List Expr} {kk : Nat} (h : X.K = K) (hg : Gl X "zip") (hm : X.mg "zip" = none) (ha : PA X [e, e2] ta)
    (hs : starEach [e, e2] X.env = (false, eval e X.env) :: starEach [e2] X.env := by rfl) (hpl : (backTo pos (starEach [e2] X.env)).any (·.1) = false := by rfl) :
    PI X (.Tuple elts kk tpos) (.Call (.Name "zip" p) [e, e2] [] pos) (iZip K ta) := by
  subst h; exact pi_zip hg hm ha hs hpl
section
variable {K : PySem.W.Frag} {W : WX} {F0 H0 F H F' H' F1 : Hp} {env : En} {α β : Type} [ToD α] [ToD β]
theorem js_zip {a b : Addr} {vs ws : List V} {xs ys : List D} (h1 : SqL K F a vs) (r1 : Reps K F xs vs) (h2 : SqL K F b ws) (r2 : Reps K F ys ws) : JS K F (Itz K a b) ((xs.zip ys).map fun q => D.tup [q.1, q.2]) := by
  have n1 := r1.length
  have n2 := r2.length
  have hn : ((xs.zip ys).map fun q => D.tup [q.1, q.2]).length = min vs.length ws.length := by rw [List.length_map, List.length_zip, n1, n2]
  refine ⟨fun i H e hi => ?_, fun i H e hi => ?_, fun i H v H' F1 e1 e2 hi hy => ?_⟩
  · rw [hn] at hi
    exact ⟨vs, ws, vs[i]'(by omega), ws[i]'(by omega), Evl.ex_l e h1, Evl.ex_l e h2, List.getElem?_eq_getElem (by omega), List.getElem?_eq_getElem (by omega)⟩
  · rw [hn] at hi
    exact ⟨vs, ws, Evl.ex_l e h1, Evl.ex_l e h2, by omega⟩
  · rw [hn] at hi
    obtain ⟨T, x, y, rfl, hT, rfl, f1, f2⟩ := hy
    have g1 := f1 vs (Evl.ex_l (e1.trans e2) h1)
    have g2 := f2 ws (Evl.ex_l (e1.trans e2) h2)
    obtain ⟨w1, q1, q2⟩ := r1.get (i := i) (e := xs[i]'(by omega)) (List.getElem?_eq_getElem (by omega))
    obtain ⟨w2, q3, q4⟩ := r2.get (i := i) (e := ys[i]'(by omega)) (List.getElem?_eq_getElem (by omega))
    rw [g1] at q1; cases q1
    rw [g2] at q3; cases q3
    have a2 : Adv F1 H (upd F1 T (.tup [x, y])) (upd H T (.tup [x, y])) := Adv.new e2 hT
    refine ⟨_, D.tup [xs[i]'(by omega), ys[i]'(by omega)], a2, ?_, ?_⟩
    · rw [List.getElem?_map, List.getElem?_eq_getElem (by rw [List.length_zip]; omega), List.getElem_zip]; rfl
    · have rr : Reps K F1 [xs[i]'(by omega), ys[i]'(by omega)] [x, y] := ⟨x, [y], rfl, Rep.mono e1 _ _ q2, y, [], rfl, Rep.mono e1 _ _ q4, rfl⟩
      exact ⟨T, _, rfl, .inl (.inl upd_same), Reps.mono a2.f _ _ rr⟩
theorem zip_toD : ∀ (xs : List α) (ys : List β), (List.zipWith T2.mk xs ys).map toD = ((xs.map toD).zip (ys.map toD)).map fun q => D.tup [q.1, q.2]
  | [], _ => by simp
  | _ :: _, [] => by simp
  | x :: r, y :: s => by
    show toD (T2.mk x y) :: (List.zipWith T2.mk r s).map toD = _
    rw [zip_toD r s]; rfl
theorem ei_zip {t : TA} {m : Res (List α × List β × Unit)} (h : EvA K W env t m) : EvI K W env (iZip K t) (m.bind fun y => .ok (List.zipWith T2.mk y.1 y.2.1)) := fun F0 H0 F H σ R S k => by
  refine h F0 H0 F H σ _ S ?_
  cases m with
  | ok y =>
    obtain ⟨xs, ys, u⟩ := y
    intro vs F1 H1 a r
    obtain ⟨v, r', rfl, ra, w, r'', rfl, rb, rfl⟩ := r
    obtain ⟨p, vs, rfl, h1, h2⟩ := ra
    obtain ⟨q, ws, rfl, h3, h4⟩ := rb
    refine ⟨p, q, vs, ws, rfl, sq_ex a.in_ h1, sq_ex a.in_ h3, ?_⟩
    have k : KI K W F H σ R (.ok (List.zipWith T2.mk xs ys)) := k
    refine k _ F1 H1 a ?_
    rw [zip_toD]
    exact js_zip (Evl.sq_of h1) h2 (Evl.sq_of h3) h4
  | exc c => exact k
  | stuck => exact k.elim
/-- a part of a slice, as the def works it out -/
def KPt (K : PySem.W.Frag) (W : WX) (F H : Hp) (σ : L2.St) (Q : Option Int → Hp → Prop) : Res (Option Int) → Prop
  | .ok o => ∀ F' H', Adv F H F' H' → Q o H'
  | .exc c => ∀ F' H', Adv F H F' H' → W (.ref (He.ga K c)) none σ H'
  | .stuck => False
def EvPt (K : PySem.W.Frag) (W : WX) (env : En) (tp : TO) (m : Res (Option Int)) : Prop := ∀ F0 H0 F H σ Q, Sl K F0 H0 F H σ env → KPt K W F H σ Q m → tp σ H Q
theorem ept_none : EvPt K W env tNoPart (.ok none) := fun F0 H0 F H σ Q S k => k F H (Adv.refl S.ex)
theorem ept_some {te : TE} {m : Res Int} (h : EvX K W env te m) : EvPt K W env (tPart te) (m.bind fun i => .ok (some i)) := fun F0 H0 F H σ Q S k => by
  refine h F0 H0 F H σ _ S ?_
  cases m with
  | ok i =>
    intro v F1 H1 a r
    exact ⟨i, r, k F1 H1 a⟩
  | exc c => exact k
  | stuck => exact k.elim
theorem en_sliceV {te : TE} {m : Res (List α)} {ml mh : Res (Option Int)} {tl th : TO} (h : EvX K W env te m) (hl : EvPt K W env tl ml) (hh : EvPt K W env th mh) :
    EvN K W env (tSl (rSlL K) te tl th) (m.bind fun xs => ml.bind fun lo => mh.bind fun hi => .ok (cutL xs lo hi)) := fun F0 H0 F H σ Q S k => by
  refine h F0 H0 F H σ _ S ?_
  cases m with
  | ok xs =>
    intro v F1 H1 a r
    obtain ⟨p, vs, rfl, h1, h2⟩ := r
    refine hl F0 H0 F1 H1 σ _ (S.step a) ?_
    cases ml with
    | ok lo =>
      intro F2 H2 a2
      refine hh F0 H0 F2 H2 σ _ ((S.step a).step a2) ?_
      cases mh with
      | ok hi =>
        intro F3 H3 a3
        have b := (a.trans a2).trans a3
        refine ⟨p, vs, rfl, sq_ex a3.in_ ((a2.f.trans a3.f) _ _ h1), fun l hl => ?_⟩
        refine k l _ F3 _ (b.trans (Adv.newO a3.in_ hl)) (Evl.fresh_back b.h hl) (none_of_ex a3.in_ hl) upd_same ?_
        have e : xs.length = vs.length := by have := h2.length; rwa [List.length_map] at this
        unfold cutV
        show Reps K F3 ((cutL xs lo hi).map toD) _
        unfold cutL
        rw [List.map_take, List.map_drop, e]
        exact Reps.mono (a2.f.trans a3.f) _ _ (Reps.take _ (Reps.drop _ h2))
      | exc c => exact fun F3 H3 a3 => k F3 H3 ((a.trans a2).trans a3)
      | stuck => exact k.elim
    | exc c => exact fun F2 H2 a2 => k F2 H2 (a.trans a2)
    | stuck => exact k.elim
  | exc c => exact k
  | stuck => exact k.elim
end
end Mi
set_option maxHeartbeats 4000000
namespace Mi
open PySem PySem.Spec L2
open Evl (Ex)
section
open PySem.W PySem.Calls PyProof.Rows RT
/-- list(reversed(x)), x a list: a new list -/
def tLRev (K : PySem.W.Frag) (te : TE) : TE := fun σ H Q => te σ H fun v H1 => ∃ (a : Addr) (xs : List V), v = .ref a ∧ SqL K H1 a xs ∧ ∀ q, H1 q = none → Q (.ref q) (upd H1 q (.lst xs.reverse))
variable {K : PySem.W.Frag} {W : WX} {env : En} {te : TE} {α : Type} [ToD α]
end
end Mi
set_option maxHeartbeats 1000000
namespace Mi
open PySem PySem.Spec L2
open Evl (Ex)
/-! ### the hook with addresses that are given -/
def lookZ (fa : List He.Fa) (fn : List He.DefD) (ts : List He.Tab) (ss : List SupD) (ex : PySem.W.Frag → Bool) (K : PySem.W.Frag) : AlY :=
  (He.obsT fa fn ts K, ex K && ss.all (SupD.ok K), ss.map fun d => fnC K (d.ad K))
def obsZ (as : List Addr) (fa : List He.Fa) (fn : List He.DefD) (ts : List He.Tab) (ss : List SupD) (ex : PySem.W.Frag → Bool) (g : Addr → Option Obj) : AlY := lookZ fa fn ts ss ex (He.frT g as)
theorem saysZ_of {fa : List He.Fa} {fn : List He.DefD} {ts : List He.Tab} {ss : List SupD} {ex : PySem.W.Frag → Bool} {w : World} {K : PySem.W.Frag} (e : lookZ fa fn ts ss ex K = valY fn ts ss w) : SaysY fa fn ts ss ex w K := by
  have e2 : (ex K && ss.all (SupD.ok K)) = true := congrArg (fun z : AlY => z.2.1) e
  have e3 : (ss.map fun d => fnC K (d.ad K)) = ss.map SupD.val := congrArg (fun z : AlY => z.2.2) e
  obtain ⟨h1, h2⟩ := He.ba e2
  exact ⟨congrArg (fun z : AlY => z.1) e, h1, fun d hd => supD_ok (List.map_inj_left.mp e3 d hd) (List.all_eq_true.mp h2 d hd)⟩
def hookZ (as : List Addr) (fa : List He.Fa) (fn : List He.DefD) (ts : List He.Tab) (ss : List SupD) (ex : PySem.W.Frag → Bool) : PySem.W.Hook where
  α := AlY
  obs := fun s => obsZ as fa fn ts ss ex s.heap.get?
  val := fun w => valY fn ts ss w
  says := fun w h => ∃ K : PySem.W.Frag, K.In h ∧ SaysY fa fn ts ss ex w K
  of := fun _ _ e => ⟨_, He.frT_in, saysZ_of e⟩
  keeps := fun _ _ _ ⟨K, hK, c⟩ k => ⟨K, PySem.W.Frag.In.keeps hK k, c⟩
theorem obsZ_eq {as : List Addr} {fa : List He.Fa} {fn : List He.DefD} {ts : List He.Tab} {ss : List SupD} {ex : PySem.W.Frag → Bool} {g : Addr → Option Obj} {s : Shared} (h : ∀ a, g a = s.heap.get? a) : obsZ as fa fn ts ss ex g = (hookZ as fa fn ts ss ex).obs s := by
  have e : g = s.heap.get? := funext h
  rw [e] <;> rfl
end Mi
set_option maxHeartbeats 1000000
namespace Mi
open PySem PySem.Spec L2
open Evl (Ex)
section
variable {K : PySem.W.Frag} {W : WX} {env : En} {te : TE} {α β : Type} [ToD α] [ToD β]
end
end Mi
set_option maxHeartbeats 1000000
namespace Mi
open PySem PySem.Spec L2
open PyProof.Rows
open Evl (Ex)
/-! ### calls with keywords, and with keyword-only parameters that lack -/
def tCallNS (n m : Nat) (sp : Sp) (gV : List V → List V → List V) (E : L2.St → XK) (t tk : TA) : TE := fun σ H Q => t σ H fun vs H1 => tk σ H1 fun zs H2 => vs.length = n ∧ zs.length = m ∧ sp (gV vs zs) H2 Q (E σ)
section
variable {X : Cx} {CX : CXT} {k n : Nat} {f : Addr} {fd : FuncData} {ps ks : List Str} {sp : Sp} {E : L2.St → XK} {x : Str} {p pos : Pos} {e : Expr} {es : List Expr} {kws : List Keyword} {t tk : TA} {g : List Value → List Value → List Value} {gV : List V → List V → List V}
end
section
variable {K : PySem.W.Frag} {W : WX} {env : En} {te : TE} {α β : Type} [ToD α] [ToD β]
end
/-- a value of any kind read as a pair of integers, or None -/
def D.asP2 : D → Res (Option (T2 Int Int))
  | .non => .ok none
  | .tup [.int x, .int y] => .ok (some ⟨x, y⟩)
  | _ => .stuck
def D.asTI : D → Res (T2 Int Int)
  | .tup [.int x, .int y] => .ok ⟨x, y⟩
  | _ => .stuck
/-! ### min and max of a pair of integers -/
def rMinP (K : PySem.W.Frag) : List V → Hp → VK → Prop := fun vs H Q => ∃ (a : Addr) (i j : Int), vs = [V.ref a] ∧ SqT K H a [.int i, .int j] ∧ Q (.int (min i j)) H
def rMaxP (K : PySem.W.Frag) : List V → Hp → VK → Prop := fun vs H Q => ∃ (a : Addr) (i j : Int), vs = [V.ref a] ∧ SqT K H a [.int i, .int j] ∧ Q (.int (max i j)) H
section
variable {X : Cx}
end
/-! ### max(xs, default=d) -/
def lmax0 (ns : List Int) (d : Int) : Int := match ns with | [] => d | y :: ys => ys.foldl max y
def tMaxD (K : PySem.W.Frag) (t tk : TA) : TE := fun σ H Q => t σ H fun vs H1 => tk σ H1 fun zs H2 => ∃ (a : Addr) (ns : List Int) (d : Int), vs = [V.ref a] ∧ zs = [V.int d] ∧ SqL K H2 a (ns.map V.int) ∧ Q (.int (lmax0 ns d)) H2
section
variable {X : Cx} {p pos : Pos} {e : Expr} {kws : List Keyword} {t tk : TA}
end
/-- the target of a comprehension's for is a tuple -/
theorem pg_tupK {X : Cx} {K : PySem.W.Frag} {es : List Expr} {k : Nat} {pos : Pos} {t : TGs} {n : Nat} (hK : X.K = K) (hc : X.calm = true) (h : PGs X es t)
    (hn : (assignEach es X.env).length = n := by rfl) (hst : (assignEach es X.env).findIdx? (·.1) = none := by rfl) : PG X (.Tuple es k pos) (gTup K n t) := by
  subst hK
  exact pg_tup hc h hn hst
end Mi
set_option maxHeartbeats 1000000
namespace Mi
open PySem PySem.Spec L2
open Evl (Ex)
/-! ### two fors in a comprehension, without ifs -/
def compL2 {α β γ : Type} (it : α → Res (List β)) (el : α → β → Res γ) : List α → Res (List γ)
  | [] => .ok []
  | x :: xs => (it x).bind fun ys => (mapL (el x) ys).bind fun zs => (compL2 it el xs).bind fun r => .ok (zs ++ r)
/-- the owned slots of an environment stand in another one, outside of ws -/
def OwnIn (e' e : En) (ws : List Nat) : Prop := ∀ (i : Nat) (sk : Sk), e'[i]? = some (some sk) → sk.own = true → e[i]? = some (some sk) ∧ i ∉ ws
section
variable {K : PySem.W.Frag} {W : WX} {env : En} {te : TE} {α β γ : Type} [ToD α] [ToD β] [ToD γ]
end
end Mi
set_option maxHeartbeats 1000000
namespace Mi
open PySem PySem.Spec L2
open Evl (Ex)
/-! ### an owned list that is read while something flat is worked out -/
class Flat (α : Type) [ToD α] : Prop where
  ok : ∀ (x : α) (K : PySem.W.Frag) (F F' : Hp) (v : V), Rep K F (toD x) v → Rep K F' (toD x) v
instance : Flat Int := ⟨fun _ _ _ _ _ h => h⟩
instance : Flat Bool := ⟨fun _ _ _ _ _ h => h⟩
instance : Flat Str := ⟨fun _ _ _ _ _ h => h⟩
instance : Flat Unit := ⟨fun _ _ _ _ _ h => h⟩
section
variable {K : PySem.W.Frag} {W : WX} {env : En} {te : TE} {α : Type} [ToD α]
end
/-! ### wider tuples, lists of a known length -/
structure Lt2 (α : Type) where
  a : α
  b : α
structure Lt3 (α : Type) where
  a : α
  b : α
  c : α
structure Lt8 (α : Type) where
  a : α
  b : α
  c : α
  e : α
  f : α
  g : α
  h : α
  i : α
instance {α : Type} [ToD α] : ToD (Lt2 α) := ⟨fun x => .lst [ToD.d x.a, ToD.d x.b]⟩
instance {α : Type} [ToD α] : ToD (Lt3 α) := ⟨fun x => .lst [ToD.d x.a, ToD.d x.b, ToD.d x.c]⟩
instance {α : Type} [ToD α] : ToD (Lt8 α) := ⟨fun x => .lst [ToD.d x.a, ToD.d x.b, ToD.d x.c, ToD.d x.e, ToD.d x.f, ToD.d x.g, ToD.d x.h, ToD.d x.i]⟩
def lt2 {α : Type} : List α → Res (Lt2 α)
  | [a, b] => .ok ⟨a, b⟩
  | _ => .stuck
def lt3 {α : Type} : List α → Res (Lt3 α)
  | [a, b, c] => .ok ⟨a, b, c⟩
  | _ => .stuck
def lt8 {α : Type} : List α → Res (Lt8 α)
  | [a, b, c, e, f, g, h, i] => .ok ⟨a, b, c, e, f, g, h, i⟩
  | _ => .stuck
section
variable {α : Type} [ToD α]
end
/-! ### dicts with text keys that a def makes -/
structure Dc (α : Type) where
  kvs : List (Str × α)
instance {α : Type} [ToD α] : ToD (Dc α) := ⟨fun x => .dct (x.kvs.map (·.1)) (x.kvs.map fun p => toD p.2)⟩
def EvPr (K : PySem.W.Frag) (W : WX) (env : En) (trs : List (TE × TE)) (ks : List Str) {β : Type} [ToDs β] (m : Res β) : Prop :=
  ∀ F0 H0 F H σ (Q : List (V × V) → Hp → Prop), Sl K F0 H0 F H σ env → KA K W F H σ (fun vs H' => Q ((ks.map V.str).zip vs) H') m → tPairs trs σ H Q
section
variable {K : PySem.W.Frag} {W : WX} {env : En} {te : TE} {α : Type} [ToD α] {trs : List (TE × TE)} {ks : List Str}
/-- a dict of this kind, read -/
def cget {α : Type} (x : Dc α) (z : Str) : Res α := match x.kvs.lookup z with
  | some y => .ok y
  | none => .stuck
end
/-! ### s[i] of a text -/
noncomputable def sidx (x : Str) (i : Int) : Res Str := match atI x.cps.toList i with
  | some c => .need (x.length < 16777216) (.ok ⟨#[c]⟩)
  | none => .stuck
/-! ### x.insert(0, e) of an owned list -/
def rInsert : V → List V → Hp → VK → Prop := fun x vs H Q => ∃ (l : Addr) (xs : List V) (i : Int) (y : V), x = .ref l ∧ vs = [.int i, y] ∧ H l = some (.lst xs) ∧ xs.length < sizeLine ∧ 0 ≤ i ∧ i < 2 ^ 63 ∧
    Q .non (upd H l (.lst (xs.take i.toNat ++ [y] ++ xs.drop i.toNat)))
section
variable {K : PySem.W.Frag} {W : WX} {F0 H0 : Hp} {rt : VK} {PT : En → Prop} {τ β : Type} [ToD τ] [ToR τ] [ToD β] {KP : Res τ → Prop} {env : En} {te : TE} {Z : Ends}
end
end Mi
set_option maxHeartbeats 1000000
namespace Mi
open PySem PySem.Spec L2
open Evl (Ex)
/-! ### built-in functions that the module imports -/
def biB (K : PySem.W.Frag) (x : Str) (id : String) : Bool := He.eqO (PySem.W.nsIn K mainGlobals x) (some (some (.builtin id)))
def rSqrt : List V → Hp → VK → Prop := fun xs H Q => ∃ i : Int, xs = [.int i] ∧ 0 ≤ i ∧ i.toNat.log2 ≤ 4000 ∧ Q (.int ((Float64.isqrt i.toNat : Nat) : Int)) H
end Mi
set_option maxHeartbeats 1000000
namespace Mi
open PySem PySem.Spec L2
open Evl (Ex)
/-! ### range(i, j, c), c above 0 -/
def stepN (i j c : Int) : Nat := if i < j then ((j - i - 1) / c + 1).toNat else 0
def pyStep (i j c : Int) : List Int := (List.range (stepN i j c)).map fun (a : Nat) => i + (a : Int) * c
section
variable {K : PySem.W.Frag} {W : WX} {F : Hp} {env : En} {ta tb tc : TE}
end
end Mi
set_option maxHeartbeats 1000000
namespace Mi
open PySem PySem.Spec L2
open Evl (Ex)
/-! ### zip of a list and a tuple -/
def ItzM (K : PySem.W.Frag) (a b : Addr) (n1 n2 : Nat) : It :=
  ⟨fun k G => ∃ (us ws : List V) (u v : V), SqL K G a us ∧ SqT K G b ws ∧ us[k]? = some u ∧ ws[k]? = some v ∧ us.length = n1 ∧ ws.length = n2,
    fun k G r G' => ∃ p u v, r = .ref p ∧ G p = none ∧ G' = upd G p (.tup [u, v]) ∧ (∀ us, SqL K G a us → us[k]? = some u) ∧ ∀ ws, SqT K G b ws → ws[k]? = some v,
    fun k G => ∃ us ws : List V, SqL K G a us ∧ SqT K G b ws ∧ us.length = n1 ∧ ws.length = n2 ∧ (n1 ≤ k ∨ n2 ≤ k)⟩
/-- the cells of such a zip -/
abbrev cellsZ (n : Nat) : List Addr := [n + 4, n + 2, n + 3, n, n + 1]
/-- the heap behind zip(list, tuple) -/
def laidZ (g : Heap) (a b : Addr) : Heap :=
  let n := g.objs.size
  ((((g.push { cls := .type "list_iterator", data := .fields #[.ref a, .int 0 0] }).push { cls := .type "tuple_iterator", data := .fields #[.ref b, .int 0 0] }).push { cls := .type "tuple", data := .seq #[.ref n, .ref (n + 1)] }).push
    { cls := .type "tuple", data := .seq #[.none, .none] }).push { cls := .type "zip", data := .fields #[.none, .bool false, .bool false, .ref (n + 2), .ref (n + 3)] }
def iZipM (K : PySem.W.Frag) (ta : TA) : TI := fun σ H R => ta σ H fun vs G => ∃ a b us ws, vs = [V.ref a, V.ref b] ∧ SqL K G a us ∧ SqT K G b ws ∧ R (ItzM K a b us.length ws.length) G
section
variable {K : PySem.W.Frag} {W : WX} {F : Hp} {env : En} {α β : Type} [ToD α] [ToD β]
end
end Mi
set_option maxHeartbeats 1000000
namespace Mi
open PySem PySem.Spec L2
open Evl (Ex)
/-! ### defs that give a new list -/
structure Nw (α : Type) where
  xs : List α
instance {α : Type} [ToD α] : ToD (Nw α) := ⟨fun z => .lst (z.xs.map ToD.d)⟩
instance {α : Type} : ToR (Nw α) := ⟨fun _ _ v H0 _ _ => ∃ p, v = .ref p ∧ H0 p = none⟩
section
variable {K : PySem.W.Frag} {W : WX} {F0 H0 F H : Hp} {rt : VK} {PT : En → Prop} {env : En} {te : TE} {Z : Ends} {α : Type} [ToD α] {KP : Res (Nw α) → Prop}
def KW (K : PySem.W.Frag) (W : WX) (F H : Hp) (σ : L2.St) (Q : VK) : Res (Nw α) → Prop
  | .ok z => ∀ p F' H', Adv F H F' H' → Rep K F' (toD z) (.ref p) → H p = none → Q (.ref p) H'
  | .exc c => ∀ F' H', Adv F H F' H' → W (.ref (He.ga K c)) none σ H'
  | .stuck => False
def spW (K : PySem.W.Frag) {δ : Type} [ToDs δ] (f : δ → Res (Nw α)) : Sp := fun vs H Q E => ∃ F x, Ex F H ∧ Reps K F (ToDs.ds x) vs ∧ KW K (fun cls d _ H => E cls d H) F H [] Q (f x)
end
section
variable {P : Program} {w : World} {K : PySem.W.Frag} {mg : Str → Option Value} {base : Heap} {x qual : Str} {params : Arguments} {body : List Stmt} {scope : Scope} {dvs : List V} {kws : List (Str × V)} {f : Addr} {fd : FuncData}
end
end Mi
set_option maxHeartbeats 1000000
namespace Mi
open PySem PySem.Spec L2
open Evl (Ex)
/-! ### texts: a walk over the signs, ord, len, +, *, join -/
def chars (x : Str) : List Str := x.cps.toList.map fun c => ⟨#[c]⟩
section
variable {K : PySem.W.Frag} {W : WX} {F : Hp} {env : En} {te to : TE}
def rLenT : List V → Hp → VK → Prop := fun xs H Q => ∃ y : Str, xs = [V.str y] ∧ y.length ≤ 16777216 ∧ Q (.int y.length) H
def rAddT : R2 := fun x y H Q => ∃ i j, x = .str i ∧ y = .str j ∧ i.length + j.length ≤ sizeLine ∧ Q (.str (i ++ j)) H
theorem opx_addT : OpX K rAddT (fun (x y : Str) => .need (x.length + y.length ≤ 16777216) (.ok (x ++ y))) := fun F H x y v u Q e h1 h2 k => by
  dsimp only at k
  by_cases c : x.length + y.length ≤ 16777216
  · rw [Res.need_pos c] at k
    exact ⟨x, y, h1, h2, by rw [sizeLine_eq]; exact c, k _ F H (Adv.refl e) rfl⟩
  · rw [Res.need_neg c] at k
    exact k.elim
def repS (x : Str) (n : Int) : Str := ⟨(List.replicate n.toNat x.cps).foldl (· ++ ·) #[]⟩
def RepT (x : Str) (k : Int) : Prop := -(2 ^ 63) ≤ k ∧ k < 2 ^ 63 ∧ x.length * k.toNat ≤ 16777216
def rRepT : R2 := fun x y H Q => ∃ i k, x = .str i ∧ y = .int k ∧ RepT i k ∧ Q (.str (repS i k)) H
def rJoin (K : PySem.W.Frag) : V → List V → Hp → VK → Prop := fun x xs H Q => ∃ a p, ∃ ys : List Str, x = .str a ∧ xs = [.ref p] ∧ (SqL K H p (ys.map V.str) ∨ SqT K H p (ys.map V.str)) ∧
  (ys.map (·.length)).sum + ys.length * a.length ≤ 16777216 ∧ Q (.str (Txt.join a ys)) H
theorem cr_listof {X : Cx} (h : X.K = K) : CallR X (.type "list") (fun xs H Q => ∃ p ys, xs = [V.ref p] ∧ (SqL K H p ys ∨ SqT K H p ys) ∧ ∀ l, H l = none → Q (.ref l) (upd H l (.lst ys))) := by
  subst h; exact call_list_of
end
end Mi
set_option maxHeartbeats 1000000
namespace Mi
open PySem PySem.Spec L2
/-- short words for slots -/
abbrev iM {α : Type} [ToD α] (x : α) : Option Sk := some (.im (toD x))
abbrev oW {α : Type} [ToD α] (xs : List α) : Option Sk := some (.ow (xs.map toD))
/-! ### a tuple as the default of a keyword -/
def kwA (p : Str × Option Str) (x : Str) (K : PySem.W.Frag) : Addr := match K.lookup (He.fAd K p) with
  | some ⟨_, _, .func fd, _⟩ => (match fd.kwdefaults with
    | .ref D => (match PySem.W.nsIn K D x with
      | some (some (.ref b)) => b
      | _ => 0)
    | _ => 0)
  | _ => 0
def tupAB (K : PySem.W.Frag) (a : Addr) (vs : List V) : Bool := match K.lookup a with
  | some ⟨.type c, _, .seq its _, _⟩ => decide (c = "tuple") && (decide (its.size ≤ sizeLine) && He.relAll vs its.toList)
  | _ => false
/-! ### list(x) of a list or a tuple of ints -/
def D.asSeq : D → Res (List Int)
  | .lst i => intsOf i
  | .tup i => intsOf i
  | _ => .stuck
section
variable {K : PySem.W.Frag} {W : WX} {env : En} {te : TE}
end
/-! ### for x in reversed(a list) -/
section
open Evl (Ex)
variable {K : PySem.W.Frag} {W : WX} {F : Hp} {env : En} {te : TE} {α : Type} [ToD α]
end
end Mi
set_option maxHeartbeats 1000000
namespace Mi
open PySem PySem.W PySem.Calls PyProof.Rows HandSHeadRun
/-! ### the top in segments: what a piece of it gives within so many steps -/
section
variable (tb : String → Option Builtin) (p : Program) (w : World) (n0 : Nat) (ann : Option Value)
def Gs {α : Type} (B : List Frame) (lv : List Value → List Value) (m : Sem α) (s : Shared) (c : Code) (q : Pos) (n : Nat) (a : α) (s' : Shared) (c' : Code) (q' : Pos) : Prop :=
  ∀ (K : α → Sem Fin) (H : Value → Sem Fin) (N : Nat) (r : Shared), topRun tb p w n0 ann N s' ⟨K a, c', q', B⟩ = some r → topRun tb p w n0 ann (n + N) s ⟨m.wrap K H id lv, c, q, B⟩ = some r
end
section
variable {tb : String → Option Builtin} {p : Program} {w : World} {n0 : Nat} {ann : Option Value} {B : List Frame} {lv : List Value → List Value} {α β : Type} {s s1 s2 : Shared} {c c1 c2 : Code} {q q1 q2 : Pos} {n k : Nat}
theorem Gs.pure {a : α} : Gs tb p w n0 ann B lv (Pure.pure a : Sem α) s c q 0 a s c q := fun K H N r h => by
  rw [Nat.zero_add]; exact h
theorem Gs.mono {m : Sem α} {a : α} (h : Gs tb p w n0 ann B lv m s c q n a s1 c1 q1) (le : n ≤ k) : Gs tb p w n0 ann B lv m s c q k a s1 c1 q1 := fun K H N r hr => by
  have := h K H (N + (k - n)) r (topRun_mono _ _ _ _ _ hr)
  rw [show n + (N + (k - n)) = k + N by omega] at this
  exact this
theorem Gs.bind {m : Sem α} {f : α → Sem β} {a : α} {b : β} (h1 : Gs tb p w n0 ann B lv m s c q n a s1 c1 q1) (h2 : Gs tb p w n0 ann B lv (f a) s1 c1 q1 k b s2 c2 q2) : Gs tb p w n0 ann B lv (m >>= f) s c q (n + k) b s2 c2 q2 := fun K H N r h => by
  rw [Sem.bind_eq_wrap', Sem.wrap_wrap, Nat.add_assoc]
  exact h1 _ _ _ _ (h2 K H N r h)
theorem Gs.keep {m : Sem α} {a : α} {vs : List Value} (h : Gs tb p w n0 ann B (fun l => lv (vs ++ l)) m s c q n a s1 c1 q1) : Gs tb p w n0 ann B lv (m.keep vs) s c q n a s1 c1 q1 := fun K H N r hr => by
  rw [Sem.keep_eq_wrap, Sem.wrap_wrap]
  exact h K H N r hr
theorem step1 {t t' : Thread} {N : Nat} {r : Shared} (h0 : through t = false) (h1 : stepOk n0 ann t = true) (h2 : step (denote tb) p w s t = .go s1 t') (h : topRun tb p w n0 ann N s1 t' = some r) : topRun tb p w n0 ann (1 + N) s t = some r := by
  rw [Nat.add_comm]
  unfold topRun
  rw [h0, h1, h2]
  exact h
theorem Gs.rule {tag : String} : Gs tb p w n0 ann B lv (rule tag) s c q 1 () s c q := fun K H N r h =>
  step1 (by cases B <;> rfl) rfl (by obtain ⟨a, b, d, e, f⟩ := s; rfl) h
theorem Gs.standAt {pos : Pos} : Gs tb p w n0 ann B lv (standAt pos) s c q 1 () s c pos := fun K H N r h =>
  step1 (by cases B <;> rfl) rfl (by obtain ⟨a, b, d, e, f⟩ := s; rfl) h
theorem Gs.loadPart {a : Addr} {part : Option Value} {o : Obj} (ho : s.heap.get? a = some o) : Gs tb p w n0 ann B lv (loadPart a part) s c q 1 o s c q := fun K H N r h =>
  step1 (t' := ⟨K o, c, q, B⟩) (by cases B <;> rfl) rfl (by obtain ⟨a, b, d, e, f⟩ := s; simp only [PySem.loadPart, Sem.wrap, step, ho]; try rfl) h
theorem Gs.alloc {o : Obj} : Gs tb p w n0 ann B lv (alloc o) s c q 1 s.heap.objs.size { s with heap := s.heap.push o } c q := fun K H N r h =>
  step1 (by cases B <;> rfl) rfl (by obtain ⟨a, b, d, e, f⟩ := s; rfl) h
theorem Gs.point : Gs tb p w n0 ann B lv point s c q 1 () s c q := fun K H N r h =>
  step1 (by cases B <;> rfl) rfl (by obtain ⟨a, b, d, e, f⟩ := s; rfl) h
theorem Gs.forIn {x : List α} {f : α → β → Sem (ForInStep β)} {b : β} (h : ∀ y ∈ x, Gs tb p w n0 ann B lv (f y b) s c q n (.yield b) s c q) : Gs tb p w n0 ann B lv (forIn x b f) s c q (n * x.length) b s c q := by
  induction x with
  | nil => rw [List.forIn_nil]; exact Gs.pure
  | cons y r ih =>
    rw [List.forIn_cons, List.length_cons, Nat.mul_succ, Nat.add_comm]
    exact Gs.bind (h y List.mem_cons_self) (ih fun z hz => h z (List.mem_cons_of_mem _ hz))
/-- a piece that the kernel runs -/
theorem Gs.seg {m : Sem α} {res : α → Flow} {f : Flow} {a0 : α} (hB : splitAtGen B = none) (hf : ∀ a, res a = f → a = a0) (h : segRun tb p w n0 ann B.length n s ⟨m.wrap (fun a => .pure (.done (res a))) deadEnd id lv, c, q, B⟩ = some (f, s1, c1, q1)) :
    Gs tb p w n0 ann B lv m s c q n a0 s1 c1 q1 := fun K H N r hr => by
  obtain ⟨a, ha, k⟩ := seg_top (res := res) (K' := K) (H' := H) (gd := id) (lv := lv) hB n s ⟨m.wrap (fun a => .pure (.done (res a))) deadEnd id lv, c, q, B⟩ ⟨m.wrap K H id lv, c, q, B⟩ f s1 c1 q1 ⟨rfl, rfl, .inl ⟨rfl, rfl, m, rfl, rfl⟩⟩ h
  cases hf a ha
  exact k N r hr
end
/-! ### pieces that change nothing -/
def isRet : List Frame → Bool
  | .ret .. :: _ => true
  | _ => false
/-- a step that leaves the state as it is, and the place at the lowest level -/
def roOk (b : Nat) (t : Thread) : Bool := match t.cur with
  | .rule .. | .load .. | .loadIfAlive .. | .point .. | .ask .. | .stack .. | .handled .. | .call .. => true
  | .at .. => !(t.stack.length == b)
  | .pure _ | .raise _ => isRet t.stack && !(t.stack.length == b)
  | _ => false
inductive RoAt (B : List Frame) (c : Code) (q : Pos) : Thread → Prop
  | base (cur : Sem Fin) : RoAt B c q ⟨cur, c, q, B⟩
  | over (cur : Sem Fin) (code : Code) (pos : Pos) (fs : List Frame) (k : Result → Sem Fin) (h : Option Value) (g : Bool) (l kept : List Value) : RoAt B c q ⟨cur, code, pos, fs ++ .ret k h g l c q kept :: B⟩
theorem RoAt.deep {B : List Frame} {c : Code} {q : Pos} {t : Thread} (h : RoAt B c q t) (e : (t.stack.length == B.length) = true) : ∃ cur, t = ⟨cur, c, q, B⟩ := by
  cases h with
  | base cur => exact ⟨cur, rfl⟩
  | over cur code pos fs k h g l kept =>
    exfalso
    have := beq_iff_eq.mp e
    simp at this
    omega
section
variable {den : Code → Sem Fin} {p : Program} {w : World} {B : List Frame} {c : Code} {q : Pos}
theorem roAt_next {s s' : Shared} {t t' : Thread} (A : RoAt B c q t) (h : roOk B.length t = true) (hs : step den p w s t = .go s' t') : s' = s ∧ RoAt B c q t' := by
  obtain ⟨h1, h2, h3, h4, h5⟩ := s
  cases A with
  | base cur =>
    cases cur with
    | rule | point | ask | handled | stack => simp only [step, Step.go.injEq] at hs; obtain ⟨rfl, rfl⟩ := hs; exact ⟨rfl, .base _⟩
    | load a z k =>
      cases e : h1.get? a with
      | none => simp only [step, e] at hs; cases hs
      | some o => simp only [step, e, Step.go.injEq] at hs; obtain ⟨rfl, rfl⟩ := hs; exact ⟨rfl, .base _⟩
    | loadIfAlive a k => simp only [step, Step.go.injEq] at hs; obtain ⟨rfl, rfl⟩ := hs; exact ⟨rfl, .base _⟩
    | call cc hh gg ll kk =>
      simp only [step, Step.go.injEq] at hs; obtain ⟨rfl, rfl⟩ := hs
      exact ⟨rfl, .over _ _ _ [] _ _ _ _ _⟩
    | «at» z k => simp [roOk] at h
    | pure f => simp [roOk] at h
    | raise f => simp [roOk] at h
    | _ => cases h
  | over cur code pos fs k hd g l kept =>
    cases cur with
    | rule | point | ask | handled | stack | «at» => simp only [step, Step.go.injEq] at hs; obtain ⟨rfl, rfl⟩ := hs; exact ⟨rfl, .over ..⟩
    | load a z k =>
      cases e : h1.get? a with
      | none => simp only [step, e] at hs; cases hs
      | some o => simp only [step, e, Step.go.injEq] at hs; obtain ⟨rfl, rfl⟩ := hs; exact ⟨rfl, .over ..⟩
    | loadIfAlive a k => simp only [step, Step.go.injEq] at hs; obtain ⟨rfl, rfl⟩ := hs; exact ⟨rfl, .over ..⟩
    | call cc hh gg ll kk =>
      simp only [step, Step.go.injEq] at hs; obtain ⟨rfl, rfl⟩ := hs
      exact ⟨rfl, .over _ _ _ (_ :: fs) _ _ _ _ _⟩
    | pure f =>
      cases f with
      | done f =>
        cases fs with
        | nil => simp only [step, List.nil_append, Step.go.injEq] at hs; obtain ⟨rfl, rfl⟩ := hs; exact ⟨rfl, .base _⟩
        | cons F fs =>
          cases F with
          | ret => simp only [step, List.cons_append, Step.go.injEq] at hs; obtain ⟨rfl, rfl⟩ := hs; exact ⟨rfl, .over ..⟩
          | gen => simp [roOk, isRet] at h
      | again cc =>
        cases fs with
        | nil => rw [List.nil_append, PySem.W.step_again] at hs; simp only [Step.go.injEq] at hs; obtain ⟨rfl, rfl⟩ := hs; exact ⟨rfl, .over _ _ _ [] _ _ _ _ _⟩
        | cons F fs =>
          cases F with
          | ret => rw [List.cons_append, PySem.W.step_again] at hs; simp only [Step.go.injEq] at hs; obtain ⟨rfl, rfl⟩ := hs; exact ⟨rfl, .over _ _ _ (_ :: fs) _ _ _ _ _⟩
          | gen => simp [roOk, isRet] at h
    | raise f =>
      cases fs with
      | nil => simp only [step, List.nil_append, Step.go.injEq] at hs; obtain ⟨rfl, rfl⟩ := hs; exact ⟨rfl, .base _⟩
      | cons F fs =>
        cases F with
        | ret => simp only [step, List.cons_append, Step.go.injEq] at hs; obtain ⟨rfl, rfl⟩ := hs; exact ⟨rfl, .over ..⟩
        | gen => simp [roOk, isRet] at h
    | _ => cases h
end
section
variable (st : SharedT → Thread → Option (SharedT × Thread)) (n0 : Nat) (ann : Option Value)
def roRun (b : Nat) : Nat → SharedT → Thread → Option Flow
  | 0, _, _ => none
  | m + 1, s, t => match endAt b t with
    | some f => some f
    | none => match roOk b t && stepOk n0 ann t with
      | false => none
      | true => match st s t with
        | some (_, t') => roRun b m s t'
        | none => none
/-- so many steps, to the piece's end -/
def sgRun (b : Nat) : Nat → SharedT → Thread → Option (Flow × SharedT × Code × Pos)
  | 0, _, _ => none
  | m + 1, s, t => match endAt b t with
    | some f => some (f, s, t.code, t.pos)
    | none => match stepOk n0 ann t with
      | false => none
      | true => match st s t with
        | some (s', t') => frS s' fun s' => sgRun b m s' t'
        | none => none
end
section
variable {tb : String → Option Builtin} {p : Program} {w : World} {n0 : Nat} {ann : Option Value} {B : List Frame} {c : Code} {q : Pos}
theorem roRun_ok : ∀ {m : Nat} {s : SharedT} {t : Thread} {f : Flow}, RoAt B c q t → roRun (stepT (denote tb) p w) n0 ann B.length m s t = some f → segRun tb p w n0 ann B.length m s.abs t = some (f, s.abs, c, q)
  | 0, _, _, _, _, h => by cases h
  | m + 1, s, t, f, A, h => by
    unfold roRun at h
    unfold segRun
    cases he : endAt B.length t with
    | some x =>
      rw [he] at h
      cases h
      have e : (t.stack.length == B.length) = true := by
        unfold endAt at he
        split at he
        · assumption
        · cases he
      obtain ⟨cur, rfl⟩ := A.deep e
      rfl
    | none =>
      rw [he] at h
      cases hk : (roOk B.length t && stepOk n0 ann t) with
      | false => rw [hk] at h; cases h
      | true =>
        rw [hk] at h
        obtain ⟨k1, k2⟩ := Bool.and_eq_true_iff.mp hk
        rw [k2]
        cases hs : stepT (denote tb) p w s t with
        | none => rw [hs] at h; cases h
        | some r =>
          obtain ⟨s2, t2⟩ := r
          rw [hs] at h
          have e := stepT_spec hs
          obtain ⟨e1, A2⟩ := roAt_next A k1 e
          rw [e]
          show segRun tb p w n0 ann B.length m s2.abs t2 = _
          rw [e1]
          exact roRun_ok A2 h
theorem sgRun_ok : ∀ {m : Nat} {s s' : SharedT} {t : Thread} {f : Flow} {c' : Code} {q' : Pos} {b : Nat}, sgRun (stepT (denote tb) p w) n0 ann b m s t = some (f, s', c', q') → segRun tb p w n0 ann b m s.abs t = some (f, s'.abs, c', q')
  | 0, _, _, _, _, _, _, _, h => by cases h
  | m + 1, s, s', t, f, c', q', b, h => by
    unfold sgRun at h
    unfold segRun
    cases he : endAt b t with
    | some x => rw [he] at h; cases h; rfl
    | none =>
      rw [he] at h
      cases hk : stepOk n0 ann t with
      | false => rw [hk] at h; cases h
      | true =>
        rw [hk] at h
        cases hs : stepT (denote tb) p w s t with
        | none => rw [hs] at h; cases h
        | some r =>
          obtain ⟨s2, t2⟩ := r
          rw [hs] at h
          have h3 : (frS s2 fun s' => sgRun (stepT (denote tb) p w) n0 ann b m s' t2) = some (f, s', c', q') := h
          rw [frS_eq] at h3
          rw [stepT_spec hs]
          exact sgRun_ok h3
variable {α : Type} {lv : List Value → List Value}
theorem Gs.ro {m : Sem α} {res : α → Flow} {f : Flow} {a0 : α} {n : Nat} {s : SharedT} (hB : splitAtGen B = none) (hf : ∀ a, res a = f → a = a0)
    (h : roRun (stepT (denote tb) p w) n0 ann B.length n s ⟨m.wrap (fun a => .pure (.done (res a))) deadEnd id lv, c, q, B⟩ = some f) : Gs tb p w n0 ann B lv m s.abs c q n a0 s.abs c q :=
  Gs.seg hB hf (roRun_ok (.base _) h)
theorem Gs.sg {m : Sem α} {res : α → Flow} {f : Flow} {a0 : α} {n : Nat} {s s' : SharedT} {c' : Code} {q' : Pos} (hB : splitAtGen B = none) (hf : ∀ a, res a = f → a = a0)
    (h : sgRun (stepT (denote tb) p w) n0 ann B.length n s ⟨m.wrap (fun a => .pure (.done (res a))) deadEnd id lv, c, q, B⟩ = some (f, s', c', q')) : Gs tb p w n0 ann B lv m s.abs c q n a0 s'.abs c' q' :=
  Gs.seg hB hf (sgRun_ok h)
end
end Mi
set_option maxHeartbeats 1000000
namespace Mi
open PySem PySem.W PySem.Calls PyProof.Rows HandSHeadRun
/-! ### storing under keys that are tuples, whatever the hashes -/
section
variable {tb : String → Option Builtin} {p : Program} {w : World} {n0 : Nat} {ann : Option Value} {B : List Frame} {lv : List Value → List Value} {s s' : Shared} {c : Code} {q : Pos} {n F : Nat}
theorem Gs.hold1 {α : Type} {m : Sem α} {x : α} {a : Addr} {c' : Code} {q' : Pos} (h : Gs tb p w n0 ann B (fun l => lv ([.ref a] ++ l)) m s c q n x s' c' q') : Gs tb p w n0 ann B lv (holding [.ref a] m) s c q n x s' c' q' := Gs.keep (vs := [.ref a]) h
theorem Gs.hold2 {α : Type} {m : Sem α} {x : α} {a b : Addr} {c' : Code} {q' : Pos} (h : Gs tb p w n0 ann B (fun l => lv ([.ref a, .ref b] ++ l)) m s c q n x s' c' q') : Gs tb p w n0 ann B lv (holding [.ref a, .ref b] m) s c q n x s' c' q' := Gs.keep (vs := [.ref a, .ref b]) h
theorem Gs.entries {d : Addr} {o : Obj} {es : Array DictEntry} {ep : Nat} {part : Option Value} (ho : s.heap.get? d = some o) (hd : o.data = .dict es ep) : Gs tb p w n0 ann B lv (dictEntries d part) s c q 1 es s c q := by
  unfold dictEntries
  refine Gs.bind (n := 1) (k := 0) (Gs.loadPart ho) ?_
  rw [hd]
  exact Gs.pure
theorem Gs.epoch {d : Addr} {o : Obj} {es : Array DictEntry} {ep : Nat} {part : Option Value} (ho : s.heap.get? d = some o) (hd : o.data = .dict es ep) : Gs tb p w n0 ann B lv (dictEpoch d part) s c q 1 ep s c q := by
  unfold dictEpoch
  refine Gs.bind (n := 1) (k := 0) (Gs.loadPart ho) ?_
  rw [hd]
  exact Gs.pure
/-- what is known of the keys that stand, for a new key at a: quiet, and another -/
structure NewKey (tb : String → Option Builtin) (p : Program) (w : World) (n0 : Nat) (ann : Option Value) (B : List Frame) (lv : List Value → List Value) (s : Shared) (c : Code) (q : Pos) (F : Nat) (ks : List Addr) (a : Addr) : Prop where
  qa : Gs tb p w n0 ann B lv (eqIsQuiet 8 (.ref a)) s c q F true s c q
  qk : ∀ k ∈ ks, Gs tb p w n0 ann B lv (eqIsQuiet 8 (.ref k)) s c q F true s c q
  ne : ∀ k ∈ ks, k ≠ a ∧ Gs tb p w n0 ann B lv (eqBool (.ref k) (.ref a)) s c q F false s c q
theorem Gs.tell {ks : List Addr} {a : Addr} {stored : List Value} (N : NewKey tb p w n0 ann B lv s c q F ks a) (hs : ∀ v ∈ stored, ∃ k ∈ ks, v = .ref k) : Gs tb p w n0 ann B lv (tableMayTell (.ref a) stored) s c q (F + F * stored.length) false s c q := by
  unfold tableMayTell
  split
  · exact (Gs.pure).mono (Nat.zero_le _)
  · refine Gs.bind N.qa ?_
    simp only [Bool.not_true, Bool.false_eq_true, if_false]
    refine Gs.bind (n := F * stored.length) (k := 0) (Gs.forIn (b := (none, ())) fun v hv => ?_) Gs.pure
    obtain ⟨k, hk, rfl⟩ := hs v hv
    refine Gs.bind (n := F) (k := 0) (N.qk k hk) ?_
    simp only [Bool.not_true, Bool.false_eq_true, if_false]
    exact Gs.pure
theorem Gs.find {d a : Addr} {o : Obj} {es : Array DictEntry} {ep : Nat} {ks : List Addr} {h : Int} (ho : s.heap.get? d = some o) (hd : o.data = .dict es ep) (he : ∀ e ∈ es, ∃ k ∈ ks, e.key = .ref k)
    (N : NewKey tb p w n0 ann B (fun l => lv ([.ref a] ++ l)) s c q F ks a) : Gs tb p w n0 ann B lv (dictFind d (.ref a) h) s c q (1 + ((F + F * es.size) + (3 + F) * es.size)) none s c q := by
  have hany : ¬ (es.any fun e => e.key == Value.ref a && e.hash != h) = true := by
    rw [Array.any_eq_true']
    rintro ⟨e, hin, hc⟩
    obtain ⟨k, hk, e1⟩ := he e hin
    have e2 := (Bool.and_eq_true_iff.mp hc).1
    rw [e1] at e2
    have e3 := eq_of_beq e2
    injection e3 with e3
    exact (N.ne k hk).1 e3
  have hst : ∀ v ∈ (placesWithHash es.size (fun i => es[i]?.map (·.hash)) h).filterMap (fun i => es[i]?.map (·.key)), ∃ k ∈ ks, v = .ref k := by
    intro v hv
    obtain ⟨i, _, hi⟩ := List.mem_filterMap.mp hv
    cases hei : es[i]? with
    | none => rw [hei] at hi; cases hi
    | some e =>
      rw [hei] at hi
      obtain rfl : e.key = v := by simpa using hi
      exact he e (Array.mem_of_getElem? hei)
  have hl1 : (placesWithHash es.size (fun i => es[i]?.map (·.hash)) h).length ≤ es.size := by
    unfold placesWithHash
    exact Nat.le_trans (List.length_filter_le _ _) (by simp)
  have hl2 : ((placesWithHash es.size (fun i => es[i]?.map (·.hash)) h).filterMap (fun i => es[i]?.map (·.key))).length ≤ es.size := Nat.le_trans (List.length_filterMap_le _ _) hl1
  unfold dictFind
  refine Gs.hold1 ?_
  refine Gs.bind (Gs.entries ho hd) ?_
  dsimp only
  rw [if_neg (show ¬ ((Value.ref a :: (placesWithHash es.size (fun i => es[i]?.map (·.hash)) h).filterMap (fun i => es[i]?.map (·.key))).all carriedByValue) = true by simp [carriedByValue])]
  rw [if_neg hany]
  have body : ∀ i ∈ placesWithHash es.size (fun i => es[i]?.map (·.hash)) h, ∀ e, es[i]? = some e → ∃ k ∈ ks, e.key = .ref k := fun i _ e q => he e (Array.mem_of_getElem? q)
  by_cases hone : (((placesWithHash es.size (fun i => es[i]?.map (·.hash)) h).filterMap (fun i => es[i]?.map (·.key))) == [Value.ref a]) = true
  all_goals (first | rw [if_pos hone] | rw [if_neg hone])
  all_goals (first | refine Gs.bind (n := F + F * es.size) (k := (3 + F) * es.size) ((Gs.pure (a := false)).mono (Nat.zero_le _)) ?_ | refine Gs.bind (n := F + F * es.size) (k := (3 + F) * es.size) ((Gs.tell N hst).mono (Nat.add_le_add_left (Nat.mul_le_mul_left _ hl2) _)) ?_)
  all_goals
    rw [if_neg (by simp)]
    refine Gs.bind (n := (3 + F) * es.size) (k := 0) ((Gs.forIn (n := 3 + F) (b := (none, none)) fun i hi => ?_).mono (Nat.mul_le_mul_left _ hl1)) Gs.pure
    cases hei : es[i]? with
    | none => exact (Gs.pure).mono (Nat.zero_le _)
    | some e =>
      obtain ⟨k, hk, e1⟩ := body i hi e hei
      dsimp only
      rw [e1]
      split
      · rw [show 3 + F = 1 + (F + (1 + 1)) by omega]
        refine Gs.bind (Gs.epoch ho hd) (Gs.bind (N.ne k hk).2 (Gs.bind (Gs.epoch ho hd) ?_))
        rw [if_neg (by simp), if_neg (by simp)]
        refine Gs.bind (n := 1) (k := 0) Gs.rule ?_
        rw [if_neg (by simp)]
        exact Gs.pure
      · exact (Gs.pure).mono (Nat.zero_le _)
/-- what a value's hash is taken from: some text of a call -/
abbrev refuseH (v : Value) : Sem Value := do rule "hash.unhashable"; raiseError "TypeError" s!"unhashable type: '{← typeNameOf v}'"
abbrev callHash (a : Addr) : Sem (Option Value) := callSpecialIfBoundUnlessNone? (.ref a) "__hash__" (refuseH (.ref a))
theorem Gs.hash {a : Addr} {H : Int} {t : Tok} {s1 : Shared} {c1 : Code} {q1 : Pos} (h1 : Gs tb p w n0 ann B lv (cRoomFor "hash" [.ref a]) s c q F () s c q) (h2 : Gs tb p w n0 ann B lv (specialOf (.ref a) "__hash__") s c q F (some (.builtin "tuple.__hash__")) s c q)
    (h3 : Gs tb p w n0 ann B lv (callHash a) s c q F (some (.int H t)) s1 c1 q1) : Gs tb p w n0 ann B lv (pyHash (.ref a)) s c q (F + (F + (F + (F + 1)))) (reduceHash H) s1 c1 q1 := by
  unfold pyHash
  unfold pyHashByItsType
  refine Gs.bind h1 ?_
  refine Gs.bind h2 ?_
  rw [if_neg (by rw [show ((some (Value.builtin "tuple.__hash__") : Option Value) == some Value.none) = false from rfl]; exact Bool.false_ne_true)]
  refine Gs.bind h2 ?_
  rw [if_neg (by simp)]
  refine Gs.bind h3 ?_
  dsimp only
  unfold pyHashByItsType.reduced reduceHash
  split
  · exact (Gs.pure).mono (Nat.zero_le _)
  · exact Gs.bind (n := 1) (k := 0) Gs.rule Gs.pure
theorem Gs.set {d a b : Addr} {o : Obj} {es : Array DictEntry} {ep : Nat} {ks : List Addr} {H : Int} {t : Tok} {s1 s2 : Shared} {c1 c2 : Code} {q1 q2 : Pos} (h1 : Gs tb p w n0 ann B (fun l => lv ([.ref a, .ref b] ++ l)) (cRoomFor "hash" [.ref a]) s c q F () s c q)
    (h2 : Gs tb p w n0 ann B (fun l => lv ([.ref a, .ref b] ++ l)) (specialOf (.ref a) "__hash__") s c q F (some (.builtin "tuple.__hash__")) s c q) (h3 : Gs tb p w n0 ann B (fun l => lv ([.ref a, .ref b] ++ l)) (callHash a) s c q F (some (.int H t)) s1 c1 q1)
    (ho : s1.heap.get? d = some o) (hd : o.data = .dict es ep) (he : ∀ e ∈ es, ∃ k ∈ ks, e.key = .ref k)
    (N : NewKey tb p w n0 ann B (fun l => lv ([.ref a, .ref b] ++ ([.ref a, .ref b] ++ ([.ref a] ++ l)))) s1 c1 q1 F ks a)
    (up : Gs tb p w n0 ann B (fun l => lv ([.ref a, .ref b] ++ ([.ref a, .ref b] ++ l))) (updateDictKeys d (·.push ⟨reduceHash H, .ref a, .ref b⟩) (keyPart (.ref a))) s1 c1 q1 F () s2 c2 q2) :
    Gs tb p w n0 ann B lv (dictSet d (.ref a) (.ref b)) s c q (F + (F + (F + (F + 1))) + ((1 + ((F + F * es.size) + (3 + F) * es.size)) + (1 + F))) () s2 c2 q2 := by
  unfold dictSet
  refine Gs.hold2 ?_
  refine Gs.bind (Gs.hash h1 h2 h3) ?_
  unfold dictSetHashed
  refine Gs.hold2 ?_
  refine Gs.bind (Gs.find ho hd he N) ?_
  dsimp only
  exact Gs.bind Gs.rule up
end
end Mi
set_option maxHeartbeats 1000000
namespace Mi
open PySem PySem.W PySem.Calls PyProof.Rows HandSHeadRun
/-! ### the same, worked out -/
abbrev fuelT : Nat := 20000
def resU : Unit → Flow := fun _ => .next
def resB : Bool → Flow := fun b => match b with
  | true => .brk
  | false => .cont
def resN : Option Value → Flow := fun o => match o with
  | some (.builtin id) => (match decide (id = "tuple.__hash__") with
    | true => .brk
    | false => .cont)
  | _ => .next
def resV : Option Value → Flow := fun o => match o with
  | some v => .ret v
  | none => .next
def resA : Addr → Flow := fun a => .ret (.ref a)
def resO : Option (List Str) → Flow := fun o => match o with
  | none => .next
  | some _ => .brk
/-- the pairs' addresses -/
def asRefs : List (Value × Value) → List (Nat × Nat) → Bool
  | [], [] => true
  | (.ref a, .ref b) :: r, (x, y) :: t => Nat.beq a x && (Nat.beq b y && asRefs r t)
  | _, _ => false
abbrev refP (x : Nat × Nat) : Value × Value := (.ref x.1, .ref x.2)
def resP (kvs : List (Nat × Nat)) : List (Value × Value) → Flow := fun l => resB (asRefs l kvs)
theorem resA_ok {a d : Addr} (h : resA a = .ret (.ref d)) : a = d := by cases h; rfl
section
variable (st : SharedT → Thread → Option (SharedT × Thread)) (n0 : Nat) (ann : Option Value) (B : List Frame)
def roB {α : Type} (m : Sem α) (res : α → Flow) (lv : List Value → List Value) (s : SharedT) (c : Code) (q : Pos) : Option Flow := roRun st n0 ann B.length fuelT s ⟨m.wrap (fun a => .pure (.done (res a))) deadEnd id lv, c, q, B⟩
def sgB {α : Type} (m : Sem α) (res : α → Flow) (lv : List Value → List Value) (s : SharedT) (c : Code) (q : Pos) : Option (Flow × SharedT × Code × Pos) := sgRun st n0 ann B.length fuelT s ⟨m.wrap (fun a => .pure (.done (res a))) deadEnd id lv, c, q, B⟩
def isBrk : Option Flow → Bool
  | some .brk => true
  | _ => false
def isCont : Option Flow → Bool
  | some .cont => true
  | _ => false
def isNext : Option Flow → Bool
  | some .next => true
  | _ => false
def newB (lv : List Value → List Value) (s : SharedT) (c : Code) (q : Pos) (ks : List Addr) (a : Addr) : Bool :=
  isBrk (roB st n0 ann B (eqIsQuiet 8 (.ref a)) resB lv s c q) && ks.all fun k => isBrk (roB st n0 ann B (eqIsQuiet 8 (.ref k)) resB lv s c q) && (!(Nat.beq k a) && isCont (roB st n0 ann B (eqBool (.ref k) (.ref a)) resB lv s c q))
def keyB (ks : List Addr) (e : DictEntry) : Bool := match e.key with
  | .ref k => ks.any fun x => Nat.beq k x
  | _ => false
def dictB (ks : List Addr) (o : Option Obj) : Bool := match o with
  | some ⟨_, _, .dict es _, _⟩ => es.toList.all (keyB ks) && Nat.ble es.size 16
  | _ => false
def setB (d : Addr) (lv : List Value → List Value) (a b : Addr) (ks : List Addr) (s : SharedT) (c : Code) (q : Pos) : Option (SharedT × Code × Pos) :=
  match isNext (roB st n0 ann B (cRoomFor "hash" [.ref a]) resU (fun l => lv ([.ref a, .ref b] ++ l)) s c q) && isBrk (roB st n0 ann B (specialOf (.ref a) "__hash__") resN (fun l => lv ([.ref a, .ref b] ++ l)) s c q) with
  | false => none
  | true => match sgB st n0 ann B (callHash a) resV (fun l => lv ([.ref a, .ref b] ++ l)) s c q with
    | some (.ret (.int H _), s1, c1, q1) => (match newB st n0 ann B (fun l => lv ([.ref a, .ref b] ++ ([.ref a, .ref b] ++ ([.ref a] ++ l)))) s1 c1 q1 ks a && dictB ks (getT s1 d) with
      | true => (match sgB st n0 ann B (updateDictKeys d (·.push ⟨reduceHash H, .ref a, .ref b⟩) (keyPart (.ref a))) resU (fun l => lv ([.ref a, .ref b] ++ ([.ref a, .ref b] ++ l))) s1 c1 q1 with
        | some (.next, s2, c2, q2) => some (s2, c2, q2)
        | _ => none)
      | false => none)
    | _ => none
def storeB (d : Addr) (lv : List Value → List Value) : List (Nat × Nat) → List Addr → SharedT → Code → Pos → Option (SharedT × Code × Pos)
  | [], _, s, c, q => some (s, c, q)
  | x :: r, ks, s, c, q => match setB st n0 ann B d lv x.1 x.2 ks s c q with
    | some (s1, c1, q1) => storeB d lv r (x.1 :: ks) s1 c1 q1
    | none => none
end
def nSet : Nat := fuelT + (fuelT + (fuelT + (fuelT + 1))) + ((1 + ((fuelT + fuelT * 16) + (3 + fuelT) * 16)) + (1 + fuelT))
section
variable {p : Program} {w : World} {n0 : Nat} {ann : Option Value} {B : List Frame}
abbrev GsT {α : Type} (p : Program) (w : World) (n0 : Nat) (ann : Option Value) (B : List Frame) (lv : List Value → List Value) (m : Sem α) (s : SharedT) (c : Code) (q : Pos) (n : Nat) (a : α) (s' : SharedT) (c' : Code) (q' : Pos) : Prop := Gs treeTable p w n0 ann B lv m s.abs c q n a s'.abs c' q'
theorem sgB_ok {α : Type} {m : Sem α} {res : α → Flow} {lv : List Value → List Value} {s s' : SharedT} {c c' : Code} {q q' : Pos} {f : Flow} {a0 : α} (hB : splitAtGen B = none) (hf : ∀ a, res a = f → a = a0) (h : sgB (stepT (denote treeTable) p w) n0 ann B m res lv s c q = some (f, s', c', q')) :
    GsT p w n0 ann B lv m s c q fuelT a0 s' c' q' := Gs.sg hB hf h
end
end Mi
set_option maxHeartbeats 1000000
namespace Mi
open PySem PySem.W PySem.Calls PyProof.Rows HandSHeadRun
/-! ### the statement -/
def pairsE (env : Env) (pos : Pos) : List Expr → List Expr → List (Sem Value × Sem Value)
  | k :: ks, v :: vs => (eval k env, do let x ← eval v env; standAt pos; pure x) :: pairsE env pos ks vs
  | _, _ => []
structure TurnD where
  pre : List Stmt
  tg : List Expr
  ks : List Expr
  vs : List Expr
  dpos : Pos
  pos : Pos
  post : List Stmt
  kvs : List (Nat × Nat)
def TurnD.stmt (T : TurnD) : Stmt := .Assign T.tg (.Dict (T.ks.map some) T.vs T.dpos) T.pos
abbrev newD : Obj := { cls := .type "dict", data := .dict #[] }
section
variable (st : SharedT → Thread → Option (SharedT × Thread)) (n0 : Nat) (ann : Option Value) (B : List Frame)
def lvD (d : Addr) (kvs : List (Nat × Nat)) : List Value → List Value := fun l => ([.ref d] : List Value) ++ (((kvs.map refP).flatMap fun x => [x.1, x.2]).filter Value.isRef ++ l)
def dispB (T : TurnD) (env : Env) (s : SharedT) (c : Code) (q : Pos) : Option (Addr × SharedT × Code × Pos) :=
  match sgB st n0 ann B (alloc newD) resA id s c T.dpos with
  | some (.ret (.ref d), s1, c1, q1) => (match sgB st n0 ann B (evalPairs (pairsE env T.dpos T.ks T.vs)) (resP T.kvs) (fun l => ([.ref d] : List Value) ++ l) s1 c1 q1 with
    | some (.brk, s2, c2, q2) => (match storeB st n0 ann B d (lvD d T.kvs) T.kvs [] s2 c2 q2 with
      | some (s3, c3, q3) => some (d, s3, c3, q3)
      | none => none)
    | _ => none)
  | _ => none
def assB (T : TurnD) (env : Env) (s : SharedT) (c : Code) (q : Pos) : Option (SharedT × Code × Pos) :=
  match sgB st n0 ann B (swapsWithSole T.tg (.Dict (T.ks.map some) T.vs T.dpos) T.pos.line env) resB id s c T.pos with
  | some (.cont, s1, c1, q1) => (match dispB st n0 ann B T env s1 c1 q1 with
    | some (d, s2, c2, q2) => (match sgB st n0 ann B (swappedStores T.tg (.Dict (T.ks.map some) T.vs T.dpos) env) resO id s2 c2 q2 with
      | some (.next, s3, c3, q3) => (match sgB st n0 ann B (assignStores env (.ref d) none ((assignEach T.tg env).map (·.2))) id id s3 c3 q3 with
        | some (.next, s4, c4, q4) => some (s4, c4, q4)
        | _ => none)
      | _ => none)
    | none => none)
  | _ => none
end
def nDisp (k : Nat) : Nat := 1 + (fuelT + (fuelT + nSet * k))
def nAss (k : Nat) : Nat := 1 + (fuelT + (nDisp k + (fuelT + fuelT)))
section
variable {p : Program} {w : World} {n0 : Nat} {ann : Option Value} {B : List Frame}
theorem Gs.hold {tb : String → Option Builtin} {lv : List Value → List Value} {α : Type} {m : Sem α} {x : α} {vs : List Value} {s s' : Shared} {c c' : Code} {q q' : Pos} {n : Nat} (h : Gs tb p w n0 ann B (fun l => lv (vs.filter Value.isRef ++ l)) m s c q n x s' c' q') : Gs tb p w n0 ann B lv (holding vs m) s c q n x s' c' q' := by
  rw [holding_eq_keep]
  exact Gs.keep h
end
end Mi
set_option maxHeartbeats 1000000
namespace Mi
open PySem PySem.W PySem.Calls PyProof.Rows HandSHeadRun
/-! ### the top with such a statement in it -/
def envT (p : Program) (code : Value) (fr : Addr) : Env := { scope := p.main.scope, locals := mainNs, globals := mainNs, cells := [], code := code, frame := some fr }
def frT1 (c : Code) (q : Pos) : List Frame := [.ret topAfter none false [] c q []]
section
variable (st : SharedT → Thread → Option (SharedT × Thread)) (n0 : Nat) (ann : Option Value)
def bodyB (p : Program) (T : TurnD) (M : Nat) (env : Env) (B : List Frame) (s : SharedT) (q : Pos) : Option SharedT :=
  match sgB st n0 ann B (blockStart (behindTheImports p) env) resU id s (.body (behindTheImports p) env) q with
  | some (.next, s1, c1, q1) => (match sgRun st n0 ann B.length M s1 ⟨(execs T.pre env).wrap (fun f => .pure (.done (id f))) deadEnd id id, c1, q1, B⟩ with
    | some (.next, s2, c2, q2) => (match assB st n0 ann B T env s2 c2 q2 with
      | some (s3, c3, q3) => goF st n0 ann M s3 ⟨(execs T.post env).wrap doneF (leaveH env) id id, c3, q3, B⟩
      | none => none)
    | _ => none)
  | _ => none
def topB (p : Program) (T : TurnD) (M : Nat) (s : SharedT) : Option SharedT :=
  match sgB st n0 ann [] (moduleCode p.main) (fun v => .ret v) id s (.builtin "claim.caller" {}) default with
  | some (.ret code, s1, c1, q1) => (match sgB st n0 ann [] (newBodyFrame code mainNs mainNs) resA id s1 c1 q1 with
    | some (.ret (.ref fr), s2, c2, q2) => bodyB st n0 ann p T M (envT p code fr) (frT1 c2 q2) s2 q2
    | _ => none)
  | _ => none
end
section
variable {p : Program} {w : World} {n0 : Nat} {ann : Option Value}
def nTop (k M : Nat) : Nat := fuelT + (fuelT + (1 + (fuelT + (M + (nAss k + M)))))
end
end Mi
set_option maxHeartbeats 1000000
namespace Mi
open PySem PySem.W PySem.Calls PyProof.Rows HandSHeadRun
/-! ### the imports, the fences, and such a top -/
def wholeT (st : Program → SharedT → Thread → Option (SharedT × Thread)) (fence : Program → Shared → Option Shared) (N M : Nat) (p : Program) (T : TurnD) : Option (Shared × SharedT) :=
  (impF (st (opening p)) N (startT (opening p)) (start (opening p)).2).bind fun i => (fence p i.abs).bind fun s0 =>
    cond (s0.heap.isNs mainGlobals && s0.gens.size == 0) ((treeOf s0).bind fun x => frS x fun x => (topB (st p) x.n (s0.heap.nsMap mainGlobals "__annotations__") p T M x).map fun s1 => (s0, s1)) none
noncomputable abbrev runT (w : World) (N M : Nat) (p : Program) (T : TurnD) : Option (Shared × SharedT) := wholeT (fun p => stepQ (denQ tabQ) p w) fenceQ N M p T
noncomputable abbrev seeT (r : OpenRow) (q : Program) (loose : List PySem.Str) :=
  fun (x : Shared × SharedT) => (looksF r.prog x.1.heap x.2.abs, seenQ q loose (importedModules r.prog.main.body) (fun s => xlAt q [] s && recOk r.toRowW.records s) x.2.abs)
/-- the whole run's equation at a world -/
structure RunEqT (r : OpenRow) (q : Program) (H : Hook) (ob : SharedT → H.α) (N M : Nat) (T : TurnD) (loose : List PySem.Str) (w : World) : Prop where
  see : (runT w N M r.prog T).map (seeT r q loose) = some (true, openGood q loose)
  ob : (runT w N M r.prog T).map (fun x => ob x.2) = some (H.val w)
end Mi
set_option maxHeartbeats 1000000
namespace Mi
open PySem PySem.W PySem.Calls PyProof.Rows
/-! ### the statement, taken out of the program -/
def turnAt (b : List Stmt) (i : Nat) (kvs : List (Nat × Nat)) : TurnD := match b[i]? with
  | some (.Assign tg (.Dict ks vs dpos) pos) => ⟨b.take i, tg, ks.filterMap id, vs, dpos, pos, b.drop (i + 1), kvs⟩
  | _ => ⟨[], [], [], [], default, default, [], []⟩
def turnOf (p : Program) (i : Nat) (kvs : List (Nat × Nat)) : TurnD := turnAt (behindTheImports p) i kvs
end Mi
set_option maxHeartbeats 1000000
namespace Mi
open PySem PySem.W PySem.Calls PyProof.Rows HandSHeadRun
/-! ### the top in pieces, from one written state to the next -/
section
variable (p : Program) (w : World) (n0 : Nat) (ann : Option Value) (env : Env) (B : List Frame)
/-- what follows the statements R -/
def RunP (R : List Stmt) (s : SharedT) (c : Code) (q : Pos) (k : Nat) (s' : SharedT) : Prop :=
  topRun treeTable p w n0 ann k s.abs ⟨(execs R env).wrap doneF (leaveH env) id id, c, q, B⟩ = some s'.abs
end
section
variable {p : Program} {w : World} {n0 : Nat} {ann : Option Value} {env : Env} {B : List Frame} {s s1 s' : SharedT} {c c1 : Code} {q q1 : Pos} {M k : Nat}
noncomputable abbrev stQ (p : Program) (w : World) : SharedT → Thread → Option (SharedT × Thread) := stepQ (denQ tabQ) p w
theorem stQ_eq (p : Program) (w : World) : stepT (denote treeTable) p w = stQ p w := by rw [stepQ_eq, denQ_eq, tabQ_eq]
theorem runP_nil (h : goF (stQ p w) n0 ann M s ⟨(execs [] env).wrap doneF (leaveH env) id id, c, q, B⟩ = some s') : RunP p w n0 ann env B [] s c q M s' := by
  rw [← stQ_eq] at h
  exact goF_ok h
theorem runP_app {A R : List Stmt} (hB : splitAtGen B = none) (h : sgRun (stQ p w) n0 ann B.length M s ⟨(execs A env).wrap (fun f => .pure (.done (id f))) deadEnd id id, c, q, B⟩ = some (.next, s1, c1, q1)) (hr : RunP p w n0 ann env B R s1 c1 q1 k s') : RunP p w n0 ann env B (A ++ R) s c q (M + k) s' := by
  rw [← stQ_eq] at h
  unfold RunP
  rw [execs_app_wrap]
  exact (Gs.sg (a0 := Flow.next) hB (fun _ e => e) h : GsT ..) _ _ _ _ hr
end
/-- an object, its epoch worked out -/
def nrmO (o : Obj) : Obj := match o with
  | ⟨c, d, .dict es n, s⟩ => frNat n fun n => ⟨c, d, .dict es n, s⟩
  | o => o
theorem nrmO_eq (o : Obj) : nrmO o = o := by
  unfold nrmO
  split
  · rw [frNat_eq]
  · rfl
theorem nrmL_eq (l : List Obj) : l.map nrmO = l := by
  rw [show nrmO = id from funext nrmO_eq, List.map_id]
/-- the imports and the fences: what is there then -/
def openL (st : Program → SharedT → Thread → Option (SharedT × Thread)) (fence : Program → Shared → Option Shared) (N : Nat) (p : Program) : Option (List Obj × Life × Array GenState × Drawn × Nat × OsState) :=
  (impF (st (opening p)) N (startT (opening p)) (start (opening p)).2).bind fun i => (fence p i.abs).map fun s0 => (s0.heap.objs.toList.map nrmO, s0.heap.life, s0.gens, s0.drawn, s0.toks, s0.os)
/-- the module's code, its frame, the block's start -/
def startB (st : SharedT → Thread → Option (SharedT × Thread)) (n0 : Nat) (ann : Option Value) (p : Program) (x : SharedT) : Option (SharedT × Value × Addr × Code × Pos × Code × Pos) :=
  match sgB st n0 ann [] (moduleCode p.main) (fun v => .ret v) id x (.builtin "claim.caller" {}) default with
  | some (.ret code, s1, c1, q1) => (match sgB st n0 ann [] (newBodyFrame code mainNs mainNs) resA id s1 c1 q1 with
    | some (.ret (.ref fr), s2, c2, q2) => (match sgB st n0 ann (frT1 c2 q2) (blockStart (behindTheImports p) (envT p code fr)) resU id s2 (.body (behindTheImports p) (envT p code fr)) q2 with
      | some (.next, s3, c3, q3) => some (s3, code, fr, c2, q2, c3, q3)
      | _ => none)
    | _ => none)
  | _ => none
noncomputable abbrev openQ (w : World) (N : Nat) (p : Program) := openL (fun p => stQ p w) fenceQ N p
section
variable {p : Program} {w : World} {N k n0 : Nat} {x s3 s' : SharedT} {ann : Option Value} {code : Value} {fr : Addr} {c2 c3 : Code} {q2 q3 : Pos}
theorem openQ_eq (w : World) (N : Nat) (p : Program) : openL (fun q => stepT (denote treeTable) q w) fenceModules? N p = openQ w N p := by
  unfold openQ stQ
  rw [stepQ_eq, denQ_eq, tabQ_eq, fenceQ_eq]
theorem openQ_ok {l : List Obj} (h : openQ w N p = some (l, x.life, x.gens, x.drawn, x.toks, x.os)) (hx : x.abs.heap.objs.toList = l) : fencedOpening treeTable p w N = some x.abs := by
  rw [← openQ_eq] at h
  unfold openL at h
  obtain ⟨i, h1, h⟩ := Option.bind_eq_some_iff.mp h
  obtain ⟨z, h2, h⟩ := Option.map_eq_some_iff.mp h
  have a := impF_ok h1
  rw [startT_eq] at a
  simp only [Prod.mk.injEq] at h
  obtain ⟨e1, e2, e3, e4, e5, e6⟩ := h
  rw [nrmL_eq] at e1
  have e : z = x.abs := by
    obtain ⟨⟨zo, zl⟩, zg, zd, zt, zs⟩ := z
    obtain ⟨t, n, l1, g1, d1, t1, o1⟩ := x
    dsimp only at e1 e2 e3 e4 e5 e6
    subst e2 e3 e4 e5 e6
    have : zo = (absHeap t n zl).objs := Array.ext' (by rw [e1]; exact hx.symm)
    subst this
    rfl
  unfold fencedOpening
  rw [a, ← e]
  exact h2
theorem startB_ok (h : startB (stQ p w) n0 ann p x = some (s3, code, fr, c2, q2, c3, q3)) (hr : RunP p w n0 ann (envT p code fr) (frT1 c2 q2) (behindTheImports p) s3 c3 q3 k s') :
    topRun treeTable p w n0 ann (fuelT + (fuelT + (1 + (fuelT + k)))) x.abs (topStub p) = some s'.abs := by
  rw [← stQ_eq] at h
  unfold startB at h
  split at h
  · rename_i code' s1 c1 q1 e1
    split at h
    · rename_i fr' s2 c2' q2' e2
      split at h
      · rename_i s3' c3' q3' e3
        simp only [Option.some.injEq, Prod.mk.injEq] at h
        obtain ⟨rfl, rfl, rfl, rfl, rfl, rfl, rfl⟩ := h
        have hB : splitAtGen (frT1 c2' q2') = none := rfl
        have e : topRun treeTable p w n0 ann (fuelT + k) s2.abs ⟨denote treeTable (.body (behindTheImports p) (envT p code' fr')), .body (behindTheImports p) (envT p code' fr'), q2', frT1 c2' q2'⟩ = some s'.abs := by
          rw [body_wrap]
          exact (sgB_ok (a0 := ()) hB (fun _ _ => rfl) e3 : GsT ..) _ _ _ _ hr
        unfold topStub
        rw [Sem.bind_eq_wrap']
        refine (sgB_ok (a0 := code') rfl (fun a e => by cases e; rfl) e1 : GsT ..) _ _ _ _ ?_
        rw [Sem.bind_eq_wrap']
        refine (sgB_ok (a0 := fr') rfl (fun _ => resA_ok) e2 : GsT ..) _ _ _ _ ?_
        exact step1 rfl rfl rfl e
      · cases h
    · cases h
  · cases h
end
/-- the whole run, in written states -/
structure RunW (p : Program) (w : World) (N k : Nat) (x s' : SharedT) : Prop where
  o : fencedOpening treeTable p w N = some x.abs
  g : (x.abs.heap.isNs mainGlobals && x.abs.gens.size == 0) = true
  t : topRun treeTable p w x.abs.heap.objs.size (x.abs.heap.nsMap mainGlobals "__annotations__") k x.abs (topStub p) = some s'.abs
theorem runW_of {p : Program} {w : World} {N k n0 : Nat} {x s3 s' : SharedT} {ann : Option Value} {code : Value} {fr : Addr} {c2 c3 : Code} {q2 q3 : Pos} {l : List Obj} (ho : openQ w N p = some (l, x.life, x.gens, x.drawn, x.toks, x.os)) (hx : x.abs.heap.objs.toList = l)
    (hg : (x.abs.heap.isNs mainGlobals && x.abs.gens.size == 0) = true) (hn : x.abs.heap.objs.size = n0) (ha : x.abs.heap.nsMap mainGlobals "__annotations__" = ann)
    (h : startB (stQ p w) n0 ann p x = some (s3, code, fr, c2, q2, c3, q3)) (hr : RunP p w n0 ann (envT p code fr) (frT1 c2 q2) (behindTheImports p) s3 c3 q3 k s') :
    RunW p w N (fuelT + (fuelT + (1 + (fuelT + k)))) x s' := by
  subst hn ha
  exact ⟨openQ_ok ho hx, hg, startB_ok h hr⟩
theorem left_pieces {p q : Program} {loose : List PySem.Str} {Xt : Shared → Bool} {α : Type} {Yf : Shared → α} {Ya : World → α} {N k : Nat} {x s' : World → SharedT} (hN : Nat.ble k N = true) (run : ∀ w, RunW p w N k (x w) (s' w))
    (see : ∀ w : World, (looksF p (x w).abs.heap (s' w).abs, openSeen q loose (importedModules p.main.body) Xt true (s' w).abs, Yf (s' w).abs) = (true, openGood q loose, Ya w)) : LeftO p q loose Xt Yf Ya N true := fun w => by
  obtain ⟨o, g, t⟩ := run w
  obtain ⟨v1, v⟩ := Prod.mk.inj (see w)
  have t' := topRun_mono (N - k) _ _ _ _ t
  rw [show k + (N - k) = N by have := Nat.le_of_ble_eq_true hN; omega] at t'
  have l : topFrom treeTable p w N (x w).abs = some (s' w).abs := by
    unfold topFrom
    rw [g]
    dsimp only
    rw [t', Option.bind_some]
    have v2 : (staticsOk (importedModules p.main.body) (x w).abs.heap (s' w).abs.heap && namesBound p (s' w).abs.heap && gensDone (s' w).abs && laidKept (x w).abs.heap (s' w).abs.heap) = true := v1
    rw [v2]
  show ((fencedOpening treeTable p w N).bind (topFrom treeTable p w N)).map _ = _
  rw [o, Option.bind_some, l]
  exact congrArg some v
theorem head_pieces {r : OpenRow} {q : Program} {H : Hook} {ob : SharedT → H.α} {N k : Nat} {x s' : World → SharedT} {loose : List PySem.Str} {d : DefRec} {kwd : List (PySem.Str × PySem.Expr)} (ho : ∀ s : SharedT, ob s = H.obs s.abs)
    (hN : Nat.ble k N = true) (run : ∀ w, RunW r.prog w N k (x w) (s' w))
    (h1 : ∀ w, looksF r.prog (x w).abs.heap (s' w).abs = true) (h2 : ∀ w, seenQ q loose (importedModules r.prog.main.body) (fun s => xlAt q [] s && recOk r.toRowW.records s) (s' w).abs = openGood q loose) (h3 : ∀ w, ob (s' w) = H.val w)
    (hdef : defOf q r.name = some (d, kwd)) (hp : r.prog.theDef r.name = some (d.params, d.body, d.scope)) (hk : kwWritten? d.params.kwonlyargs d.params.kw_defaults = some kwd) (hwr : (!r.writes || r.records.isEmpty) = true) (k1 : r.wellSaid = true)
    (ok : (chainsOk q && opensWell r.prog && (frees r.toRowW && r.within.isEmpty)) = true) (bare : r.prog.bare) (hw : r.toRowW.promised) (call : WalkO q loose (XL q []) H.says r.toRowW d kwd fun f vs => PySem.call f vs) : r.Holds := by
  have left : LeftO r.prog q loose (fun s => xlAt q [] s && recOk r.toRowW.records s) H.obs H.val N true := by
    refine left_pieces hN run fun w => ?_
    have e3 := h3 w
    rw [ho] at e3
    rw [h1 w, seenQ_eq, h2 w, e3]
  refine holds_open (XP := XL q []) (YP := H.says) left H.of H.keeps ?_ XL.keeps hdef hp hk ?_ hwr k1 ok bare hw call
  · exact fun s z => xl_of s (Bool.and_eq_true_iff.mp z).1
  · exact fun s z => recFacts_of (Bool.and_eq_true_iff.mp z).2
/-! ### words for written objects -/
abbrev vS (x : String) (t : Nat) : Value := .str (.ofString x) t
abbrev vI (i : Int) (t : Nat) : Value := .int i t
abbrev vR (a : Nat) : Value := .ref a
abbrev vB (b : String) : Value := .builtin b
abbrev vT (b : String) : Value := .type b
abbrev vN : Value := .none
def dE (w : World) (x : String) (t : Nat) (v : Value) : DictEntry := ⟨PyData.keyHash w.params (.ofString x), .str (.ofString x) t, v⟩
def oD (es : List DictEntry) (n : Nat) : Obj := ⟨.type "dict", none, .dict es.toArray n, #[]⟩
def oT (vs : List Value) : Obj := ⟨.type "tuple", none, .seq vs.toArray 0, #[]⟩
def oL (vs : List Value) (n : Nat) : Obj := ⟨.type "list", none, .seq vs.toArray n, #[]⟩
def oF (c : Value) (vs : List Value) : Obj := ⟨c, none, .fields vs.toArray, #[]⟩
def oP (c : Value) (sl : List (Option Value)) : Obj := ⟨c, none, .plain, sl.toArray⟩
def oC (c : Value) (d : Option Nat) (name : String) (bases mro : List Value) (ns : Nat) (qual : String) (sl : List (Option Value)) : Obj := ⟨c, d, .cls { name := .ofString name, bases := bases, mro := mro, ns := ns, qualname := .ofString qual }, sl.toArray⟩
def oU (c : Value) (name qual : String) (st : Stmt) (globals : Nat) (closure : List (PySem.Str × Nat)) (dfl kwd pm : Value) (ann : Option Nat) (code ct : Value) (bi : Nat) (sl : List (Option Value)) : Obj :=
  ⟨c, none, .func ⟨.ofString name, .ofString qual, L2.defArgs st, .stmts (L2.defBody st), L2.defScope st, globals, closure, dfl, kwd, .none, pm, ann, code, ct, bi⟩, sl.toArray⟩
/-- the tree of a list of objects -/
def trF : Nat → List Obj → BT
  | 0, _ => .nil
  | _ + 1, [] => .nil
  | n + 1, o :: r => .node o (trF n (alt true r)) (trF n (alt false r))
where alt : Bool → List Obj → List Obj
  | _, [] => []
  | true, x :: r => x :: alt false r
  | false, _ :: r => alt true r
end Mi
set_option maxHeartbeats 1000000
namespace Mi
open PySem PySem.Spec L2
open Evl (Ex)
/-! ### an f-string as a value -/
section
variable {K : PySem.W.Frag} {W : WX} {F H : Hp} {σ : L2.St} {env : En} {α β γ : Type} [ToD α] [ToD β] [ToD γ] {te to : TE}
def EvG (K : PySem.W.Frag) (W : WX) (env : En) (ts : List TE) (N : Nat) (m : Res Str) : Prop :=
  ∀ F0 H0 F H σ acc (Q : Str → Hp → Prop), Sl K F0 H0 F H σ env → acc.length + N ≤ sizeLine → KE K W F H σ (fun v H' => ∀ out, v = V.str out → Q (acc ++ out) H') m → tJs ts acc σ H Q
end
/-! ### a call without arguments -/
section
variable {X : Cx} {CX : CXT} {k : Nat} {f : Addr} {fd : FuncData} {ps : List Str} {sp : Sp} {E : L2.St → XK} {x : Str} {p pos : Pos}
end
/-! ### is, is not of a bool or None and a bool -/
def rIsOB : R2 := fun x y H Q => ∃ b : Bool, y = .bl b ∧ ((x = .non ∧ Q (.bl false) H) ∨ ∃ a : Bool, x = .bl a ∧ Q (.bl (decide (a = b))) H)
def rNotOB : R2 := fun x y H Q => ∃ b : Bool, y = .bl b ∧ ((x = .non ∧ Q (.bl true) H) ∨ ∃ a : Bool, x = .bl a ∧ Q (.bl (!decide (a = b))) H)
section
variable {X : Cx}
end
/-! ### two fors in a comprehension, the second with an if -/
def compL2T {α β γ : Type} (it : α → Res (List β)) (tst : α → β → Res Bool) (el : α → β → Res γ) : List α → Res (List γ)
  | [] => .ok []
  | x :: xs => (it x).bind fun ys => (compL (tst x) (el x) ys).bind fun zs => (compL2T it tst el xs).bind fun r => .ok (zs ++ r)
section
variable {K : PySem.W.Frag} {W : WX} {env : En} {te : TE} {tt : TT} {α β γ : Type} [ToD α] [ToD β] [ToD γ]
end
end Mi
set_option maxHeartbeats 1000000
namespace Mi
open PySem PySem.Spec L2
open Evl (Ex)
/-! ### objects that methods change -/
/-- what a method of such an object gives: a value, and the object as it then is -/
structure MoR (α S : Type) where
  x : α
  s : S
/-- the same, with the object's place -/
def Mo (p : Addr) (α S : Type) := MoR α S
/-- an object at its place, not frozen -/
def At (K : PySem.W.Frag) (F H : Hp) (p : Addr) : D → Prop
  | .obj c ks ds => ∃ dx vs, F p = none ∧ H p = some (.ins (He.ga K c) dx (ks.zip vs)) ∧ ks.length = vs.length ∧ Reps K F ds vs
  | _ => False
instance {p : Addr} {α S : Type} [ToD α] : ToD (Mo p α S) := ⟨fun z => ToD.d (MoR.x z)⟩
instance {p : Addr} {α S : Type} [ToD S] : ToR (Mo p α S) := ⟨fun K z v H0 F H => At K F H p (toD (MoR.s z))⟩
def Res.bind2 {α S β : Type} (m : Res (MoR α S)) (g : α → S → Res β) : Res β := m.bind fun z => g z.x z.s
section
variable {K : PySem.W.Frag} {F0 H0 F H F' H' : Hp} {σ : L2.St} {env : En}
theorem At.adv {p : Addr} {d : D} (a : Adv F H F' H') (h : At K F H p d) : At K F' H' p d := by
  cases d <;> try exact h
  obtain ⟨dx, vs, h1, h2, h3, h4⟩ := h
  exact ⟨dx, vs, a.out p h1 (by rw [h2]; simp), a.h _ _ h2, h3, Reps.mono a.f _ _ h4⟩
/-- the heap without an owned object -/
theorem SkOk.hide {sk : Sk} {v : V} {p : Addr} (hn : sk.own = true → v ≠ .ref p) (h : SkOk K H0 F H sk v) : SkOk K H0 F (hide H p) sk v := by
  cases sk with
  | im e => exact h
  | raw w => exact h
  | ow xs =>
    obtain ⟨q, vs, e1, e2, e3, e4, e5⟩ := h
    have hne : q ≠ p := fun z => hn rfl (by rw [e1, z])
    exact ⟨q, vs, e1, e2, e3, by rw [hide_ne hne]; exact e4, e5⟩
  | oi pp c ks ds =>
    obtain ⟨q, dx, vs, e1, e2, e3, e4, e5, e6, e7⟩ := h
    have hne : q ≠ p := fun z => hn rfl (by rw [e1, z])
    exact ⟨q, dx, vs, e1, e2, e3, by rw [hide_ne hne]; exact e4, e5, e6, e7⟩
theorem set_none_get {i j : Nat} {sk : Sk} (h : (env.set i none)[j]? = some (some sk)) : j ≠ i ∧ env[j]? = some (some sk) := by
  rcases set_get h with ⟨_, z⟩ | ⟨z, q⟩
  · cases z
  · exact ⟨fun w => z w.symm, q⟩
theorem Sl.hide (S : Sl K F0 H0 F H σ env) {i : Nat} {sk : Sk} {p : Addr} (hi : env[i]? = some (some sk)) (ho : sk.own = true) (hs : σ[i]? = some (some (.ref p))) (h0 : H0 p = none) (hf : F p = none) : Sl K F0 H0 F (Mi.hide H p) σ (env.set i none) := by
  refine ⟨⟨S.adv.f, fun a u q => ?_, fun a u q => ?_, S.adv.out⟩, fun j sk' q => ?_, fun j k sk1 sk2 p' hjk e1 e2 o1 o2 h1 => ?_, by rw [List.length_set]; exact S.len⟩
  · rw [hide_ne (ne_of_none q h0)]; exact S.adv.h a u q
  · rw [hide_ne (ne_of_none q hf)]; exact S.adv.in_ a u q
  · obtain ⟨z, q⟩ := set_none_get q
    obtain ⟨w, h1, h2⟩ := S.slot j sk' q
    exact ⟨w, h1, h2.hide fun o2 zz => S.dis j i _ _ p z q hi o2 ho (by rw [h1, zz]) hs⟩
  · exact S.dis j k sk1 sk2 p' hjk (set_none_get e1).2 (set_none_get e2).2 o1 o2 h1
end
/-! ### what follows a value whose expression changes an object -/
section
variable (K : PySem.W.Frag) (W : WX) (F0 H0 F : Hp) (σ : L2.St)
def KM {α S : Type} [ToD α] (env' : S → En) (envE : En) (Q : VK) : Res (MoR α S) → Prop
  | .ok z => ∀ v F' H', Ex F F' → Sl K F0 H0 F' H' σ (env' z.s) → Rep K F' (toD z.x) v → Q v H'
  | .exc c => ∀ F' H', Ex F F' → Sl K F0 H0 F' H' σ envE → W (.ref (He.ga K c)) none σ H'
  | .stuck => False
def KMA {β S : Type} [ToDs β] (env' : S → En) (envE : En) (Q : List V → Hp → Prop) : Res (MoR β S) → Prop
  | .ok z => ∀ vs F' H', Ex F F' → Sl K F0 H0 F' H' σ (env' z.s) → Reps K F' (ToDs.ds z.x) vs → Q vs H'
  | .exc c => ∀ F' H', Ex F F' → Sl K F0 H0 F' H' σ envE → W (.ref (He.ga K c)) none σ H'
  | .stuck => False
end
def EvM (K : PySem.W.Frag) (W : WX) (env : En) {S : Type} (env' : S → En) (envE : En) (te : TE) {α : Type} [ToD α] (m : Res (MoR α S)) : Prop :=
  ∀ F0 H0 F H σ Q, Sl K F0 H0 F H σ env → KM K W F0 H0 F σ env' envE Q m → te σ H Q
def EvMA (K : PySem.W.Frag) (W : WX) (env : En) {S : Type} (env' : S → En) (envE : En) (ta : TA) {β : Type} [ToDs β] (m : Res (MoR β S)) : Prop :=
  ∀ F0 H0 F H σ Q, Sl K F0 H0 F H σ env → KMA K W F0 H0 F σ env' envE Q m → ta σ H Q
/-- the promise of a method of such an object -/
def KO (K : PySem.W.Frag) (F H : Hp) (p : Addr) {α S : Type} [ToD α] [ToD S] (Q : VK) (E : XK) : Res (MoR α S) → Prop
  | .ok z => ∀ v F' H', Adv F (hide H p) F' H' → At K F' H' p (toD z.s) → Rep K F' (toD z.x) v → Q v H'
  | .exc c => ∀ F' H', Adv F (hide H p) F' H' → E (.ref (He.ga K c)) none H'
  | .stuck => False
def spO (K : PySem.W.Frag) {α S δ : Type} [ToD α] [ToD S] [ToDs δ] (f : S × δ → Res (MoR α S)) : Sp := fun vs H Q E => ∃ F s y p ws, vs = .ref p :: ws ∧ Ex F H ∧ At K F H p (toD s) ∧ Reps K F (ToDs.ds y) ws ∧ KO K F H p Q E (f (s, y))
section
variable {K : PySem.W.Frag} {W : WX} {env envE : En} {α β γ S : Type} [ToD α] [ToD β] [ToD γ] [ToD S] {env' : S → En} {te ta tb : TE} {r : R2}
end
/-! ### statements -/
section
variable {K : PySem.W.Frag} {W : WX} {F0 H0 F H : Hp} {rt : VK} {PT : En → Prop} {env envE : En} {α β S τ : Type} [ToD α] [ToD β] [ToD S] [ToD τ] [ToR τ] {KP : Res τ → Prop} {env' : S → En} {te : TE} {Z : Ends}
end
section
variable {K : PySem.W.Frag} {W : WX} {F0 H0 F H : Hp} {rt : VK} {PT : En → Prop} {env envE : En} {α S : Type} [ToD α] [ToD S] {p : Addr} {KP : Res (Mo p α S) → Prop} {env' : S → En} {te : TE} {Z : Ends}
end
section
variable {K : PySem.W.Frag} {W : WX} {F0 H0 F H : Hp} {rt : VK} {PT : En → Prop} {env : En} {S : Type} [ToD S] {p : Addr} {KP : Res (Mo p Unit S) → Prop} {Z : Ends}
end
/-! ### a method, an __init__ of such an object -/
section
variable {P : Program} {w : World} {K : PySem.W.Frag} {mg : Str → Option Value} {base : Heap} {x qual : Str} {params : Arguments} {body : List Stmt} {scope : Scope} {dvs : List V} {kws : List (Str × V)} {f : Addr} {fd : FuncData}
/-- the promise of an __init__ of such an object -/
def spJ (K : PySem.W.Frag) (c : Str) {S δ : Type} [ToD S] [ToDs δ] (f : δ → Res (MoR Unit S)) : Sp := fun vs H Q E => ∃ F y p dx ws, vs = .ref p :: ws ∧ Ex F H ∧ F p = none ∧ H p = some (.ins (He.ga K c) dx []) ∧ Reps K F (ToDs.ds y) ws ∧ KO K F H p Q E (f y)
end
/-! ### a new object that is changed later -/
def KOb (K : PySem.W.Frag) (W : WX) (F H : Hp) (σ : L2.St) {S : Type} [ToD S] (Q : VK) : Res S → Prop
  | .ok s => ∀ p F' H', Adv F H F' H' → H p = none → At K F' H' p (toD s) → Q (.ref p) H'
  | .exc c => ∀ F' H', Adv F H F' H' → W (.ref (He.ga K c)) none σ H'
  | .stuck => False
def EvO (K : PySem.W.Frag) (W : WX) (env : En) (te : TE) {S : Type} [ToD S] (m : Res S) : Prop :=
  ∀ F0 H0 F H σ Q, Sl K F0 H0 F H σ env → KOb K W F H σ Q m → te σ H Q
section
variable {K : PySem.W.Frag} {W : WX} {env : En} {S τ : Type} [ToD S] {te : TE}
/-- C(.., k = v, ..) -/
def tMakeNS (C : Addr) (n m : Nat) (sp : Sp) (gV : List V → List V → List V) (E : L2.St → XK) (t tk : TA) : TE := fun σ H Q => t σ H fun vs H1 => tk σ H1 fun zs H2 => vs.length = n ∧ zs.length = m ∧ ∀ x dx, H2 x = none → H2 dx = none → dx ≠ x →
  sp (gV (.ref x :: vs) zs) (upd (upd H2 dx (.own x)) x (.ins C dx [])) (fun v H3 => v = .non ∧ Q (.ref x) H3) (E σ)
end
section
variable {X : Cx} {CX : CXT} {k n : Nat} {f C : Addr} {fd : FuncData} {ps ks : List Str} {sp : Sp} {E : L2.St → XK} {x : Str} {p pos : Pos} {e : Expr} {es : List Expr} {kws : List Keyword} {t tk : TA} {g : List Value → List Value → List Value} {gV : List V → List V → List V}
end
section
variable {K : PySem.W.Frag} {W : WX} {F0 H0 : Hp} {rt : VK} {PT : En → Prop} {env : En} {S τ : Type} [ToD S] [ToD τ] [ToR τ] {KP : Res τ → Prop} {te : TE} {Z : Ends}
end
end Mi
set_option maxHeartbeats 1000000
namespace Mi
open PySem PySem.Spec L2
open PyProof.Rows
open Evl (Ex)
/-! ### a comprehension whose element raises -/
section
variable {X : Cx} {pins : List (Addr × Obj)} {σ : L2.St} {H3 : Hp} {s3 : Shared} {scope : Scope} {ce : Env} {fp : List Addr} {E : XK}
/-- what a block asks of a raise -/
abbrev blkX (X : Cx) (ce : Env) : Value → Shared → Prop := notedBy (model X.prog X.w) X.A ce (CompFails (model X.prog X.w) X.A X.xe ce)
end
section
variable {K : PySem.W.Frag} {F0 H0 F H F' H' F1 : Hp} {env env' : En} {α β : Type} [ToD α] [ToD β] {te : TE} {tt : TT} {σ : L2.St}
end
noncomputable def compL2G {α β γ : Type} (it : α → Res (List β)) (el : α → β → γ) : List α → List γ → Res (List γ)
  | [], acc => .ok acc
  | x :: xs, acc => (it x).bind fun ys => .need (acc.length + ys.length ≤ 16777216) (compL2G it el xs (acc ++ ys.map (el x)))
section
variable {K : PySem.W.Frag} {env : En} {te : TE} {α β γ : Type} [ToD α] [ToD β] [ToD γ]
end
/-! ### a name that a loop sets, and that is read behind it -/
abbrev lateM {α : Type} [ToD α] (o : Option α) : Option Sk := o.bind iM
end Mi
set_option maxHeartbeats 4000000
namespace Mi
open PySem PySem.Spec L2 PyProof.Rows
open Evl (Ex)
def rRepTA (K : PySem.W.Frag) : R2 := fun x y H Q => ∃ a k xs, x = .ref a ∧ y = .int k ∧ SqT K H a xs ∧ xs ≠ [] ∧ 0 ≤ k ∧ k ≤ 1000 ∧ xs.length ≤ 1000 ∧ (k = 1 → Q (.ref a) H) ∧
  (k ≠ 1 → ∀ p, H p = none → Q (.ref p) (upd H p (.tup (List.replicate k.toNat xs).flatten)))
section
variable {K : PySem.W.Frag} {α : Type} [ToD α]
end

/-! ### an owned list, inserted into and popped at a place -/
section
variable {K : PySem.W.Frag} {W : WX} {F0 H0 : Hp} {rt : VK} {PT : En → Prop} {env : En} {τ β : Type} [ToD τ] [ToR τ] [ToD β] {KP : Res τ → Prop} {Z : Ends} {te ti : TE}
theorem blk_insI {i : Nat} {xs : List β} {m1 : Res Int} {m : Res β} {f : Int → β → Res τ} (L : Lk K W F0 H0 rt PT KP) (hT : PT env) (hx : env[i]? = some (some (.ow (xs.map toD)))) (hi : EvX K W env ti m1) (he : EvX K W env te m)
    (k : ∀ j y, Blk K F0 H0 KP Z.nx (env.set i (some (.ow ((xs.take j.toNat ++ [y] ++ xs.drop j.toNat).map toD)))) (f j y)) :
    Blk K F0 H0 KP (tDrop (tBM K "list" rInsert (tVar i) (tCons ti (tCons te tNil))) Z) env (m1.bind fun j => m.bind fun y => .need (xs.length < 16777216 ∧ 0 ≤ j ∧ j < 2 ^ 63) (f j y)) := fun F H σ S h => by
  obtain ⟨v, e, p, vs, rfl, h0, hf, hp, hr⟩ := S.slot i _ hx
  refine ⟨_, e, .inl ⟨rfl, _, .inl (.inl hp)⟩, ?_⟩
  refine hi F0 H0 F H σ _ S (L.ke hT S h fun j w F1 H1 e1 a1 r1 h1 => ?_)
  cases (show w = V.int j from r1)
  refine he F0 H0 F1 H1 σ _ (S.step a1) (L.ke hT (S.step a1) h1 fun y u F2 H2 e2 a2 r2 h2 => ?_)
  by_cases c : xs.length < 16777216 ∧ 0 ≤ j ∧ j < 2 ^ 63
  · rw [Res.need_pos c] at h2
    have ha := a1.trans a2
    have hr' := Reps.mono ha.f _ _ hr
    refine ⟨p, vs, j, u, rfl, rfl, ha.h _ _ hp, by rw [sizeLine_eq, ← hr.length, List.length_map]; exact c.1, c.2.1, c.2.2, ?_⟩
    refine k j y F2 _ σ ((S.step ha).chg hx e (ha.out p hf (by rw [hp]; simp)) h0 ?_) h2
    rw [List.map_append, List.map_append, List.map_take, List.map_drop]
    exact Reps.append (Reps.append (Reps.take _ hr') (Reps.one r2)) (Reps.drop _ hr')
  · rw [Res.need_neg c] at h2
    exact (L.no h2).elim
theorem blk_popI {i : Nat} {xs : List β} {m1 : Res Int} {f : List β → Res τ} (L : Lk K W F0 H0 rt PT KP) (hT : PT env) (hx : env[i]? = some (some (.ow (xs.map toD)))) (hi : EvX K W env ti m1)
    (k : ∀ ys, Blk K F0 H0 KP Z.nx (env.set i (some (.ow (ys.map toD)))) (f ys)) :
    Blk K F0 H0 KP (tDrop (tBM K "list" rPopAt (tVar i) (tCons ti tNil)) Z) env (m1.bind fun j => .need (xs.length ≤ 16777216) (match ixN xs.length j with | some a => f (xs.eraseIdx a) | none => .stuck)) := fun F H σ S h => by
  obtain ⟨v, e, p, vs, rfl, h0, hf, hp, hr⟩ := S.slot i _ hx
  refine ⟨_, e, .inl ⟨rfl, _, .inl (.inl hp)⟩, ?_⟩
  refine hi F0 H0 F H σ _ S (L.ke hT S h fun j w F1 H1 e1 a1 r1 h1 => ?_)
  cases (show w = V.int j from r1)
  by_cases c : xs.length ≤ 16777216
  · rw [Res.need_pos c] at h1
    have hr' := Reps.mono a1.f _ _ hr
    have hl : vs.length = xs.length := by rw [← hr.length, List.length_map]
    cases q : ixN xs.length j with
    | none => rw [q] at h1; exact (L.no h1).elim
    | some a =>
      rw [q] at h1
      obtain ⟨q1, q2, q3, q4⟩ := ixN_seq q
      obtain ⟨y, hy⟩ : ∃ y, vs[a]? = some y := ⟨vs[a]'(by omega), List.getElem?_eq_getElem _⟩
      refine ⟨p, vs, j, a, y, rfl, rfl, a1.h _ _ hp, by omega, by omega, by rw [hl]; exact q1, hy, ?_⟩
      refine k (xs.eraseIdx a) F1 _ σ ((S.step a1).chg hx e (a1.out p hf (by rw [hp]; simp)) h0 ?_) h1
      have : (xs.eraseIdx a).map toD = (xs.map toD).eraseIdx a := by
        rw [List.eraseIdx_eq_take_drop_succ, List.eraseIdx_eq_take_drop_succ, List.map_append, List.map_take, List.map_drop]
      rw [this, List.eraseIdx_eq_take_drop_succ, List.eraseIdx_eq_take_drop_succ]
      exact Reps.append (Reps.take _ hr') (Reps.drop _ hr')
  · rw [Res.need_neg c] at h1
    exact (L.no h1).elim
end

/-- a comprehension into a name that an inner block reads -/
theorem sw_cell {elt : Expr} {gs : List Comprehension} {scope : Scope} {pos py : Pos} {y : Str} {l : Nat} {env : Env} (hy : env.scope.names.lookup y = some .cell) : swapsWith (.ListComp elt gs scope pos) (some (.Name y py)) l env = pure false := by
  have ky : env.kindOf y = some .cell := hy
  unfold swapsWith
  simp only [ky]
  have : (some NameKind.cell == some NameKind.local) = false := rfl
  rw [this, Bool.and_false, Bool.false_and, Bool.false_and]

/-- str(n) -/
theorem cx_strI {K : PySem.W.Frag} : CrX K (fun xs H Q => ∃ i : Int, xs = [.int i] ∧ i.natAbs.log2 < 1920 ∧ Q (.str (toString i)) H) (fun (p : Int × Unit) => .need (p.1.natAbs.log2 < 1920) (.ok (toString p.1 : Str))) := fun F H x vs Q e r k => by
  obtain ⟨v, r1, rfl, h1, h2⟩ := r
  cases (show r1 = [] from h2); cases (show v = V.int x.1 from h1)
  by_cases q : x.1.natAbs.log2 < 1920
  · simp only [Res.need_pos q] at k
    exact ⟨x.1, rfl, q, k _ F H (Adv.refl e) rfl⟩
  · simp only [Res.need_neg q] at k
    exact k.elim

/-! ### values read as lists of texts, as lists of pairs of texts with two values behind -/
def mapR {α : Type} (f : D → Res α) : List D → Res (List α)
  | [] => .ok []
  | x :: r => (f x).bind fun y => (mapR f r).bind fun ys => .ok (y :: ys)
theorem mapR_ok {α : Type} [ToD α] {f : D → Res α} (h : ∀ x y, f x = .ok y → toD y = x) : ∀ (xs : List D) (ys : List α), mapR f xs = .ok ys → ys.map toD = xs
  | [], ys, e => by cases (show Res.ok [] = Res.ok ys from e); rfl
  | x :: r, ys, e => by
    have e : (f x).bind (fun y => (mapR f r).bind fun ys => .ok (y :: ys)) = .ok ys := e
    cases q : f x with
    | ok y =>
      rw [q, Res.bind_ok] at e
      cases q2 : mapR f r with
      | ok zs =>
        rw [q2, Res.bind_ok] at e
        cases e
        rw [List.map_cons, h x y q, mapR_ok h r zs q2]
      | exc c => rw [q2] at e; cases e
      | stuck => rw [q2] at e; cases e
    | exc c => rw [q] at e; cases e
    | stuck => rw [q] at e; cases e
theorem mapR_x {α : Type} {f : D → Res α} (h : ∀ x c, f x ≠ .exc c) : ∀ (xs : List D) (c : Str), mapR f xs ≠ .exc c
  | [], c => fun e => by cases e
  | x :: r, c => fun e => by
    have e : (f x).bind (fun y => (mapR f r).bind fun ys => .ok (y :: ys)) = .exc c := e
    cases q : f x with
    | ok y =>
      rw [q, Res.bind_ok] at e
      cases q2 : mapR f r with
      | ok zs => rw [q2] at e; cases e
      | exc c' => exact mapR_x h r c' q2
      | stuck => rw [q2] at e; cases e
    | exc c' => exact h x c' q
    | stuck => rw [q] at e; cases e
theorem mapR_toD {α : Type} [ToD α] {f : D → Res α} (h : ∀ y : α, f (toD y) = .ok y) : ∀ ys : List α, mapR f (ys.map toD) = .ok ys
  | [] => rfl
  | y :: r => by
    show (f (toD y)).bind (fun y => (mapR f (r.map toD)).bind fun ys => .ok (y :: ys)) = _
    rw [h y, mapR_toD h r]; rfl
def D.asStrs : D → Res (List Str)
  | .lst xs => mapR D.asStr xs
  | _ => .stuck
theorem asStrs_ok : ∀ (x : D) (y : List Str), x.asStrs = .ok y → toD y = x := by
  intro x y h
  cases x with
  | lst xs =>
    show D.lst (y.map ToD.d) = _
    exact congrArg D.lst (mapR_ok asStr_ok xs y h)
  | _ => cases h
theorem asStrs_x (x : D) (c : Str) : x.asStrs ≠ .exc c := by
  cases x with
  | lst xs => exact mapR_x asStr_x xs c
  | _ => intro h; cases h
def D.asS2 : D → Res (T4 Str Str D D)
  | .tup [.str a, .str b, c, d] => .ok ⟨a, b, c, d⟩
  | _ => .stuck
theorem asS2_ok : ∀ (x : D) (y : T4 Str Str D D), x.asS2 = .ok y → toD y = x := by
  intro x y h
  unfold D.asS2 at h
  split at h
  · cases h; rfl
  · cases h
theorem asS2_x (x : D) (c : Str) : x.asS2 ≠ .exc c := by intro h; unfold D.asS2 at h; split at h <;> cases h
def D.asS2s : D → Res (List (T4 Str Str D D))
  | .lst xs => mapR D.asS2 xs
  | _ => .stuck
theorem asS2s_ok : ∀ (x : D) (y : List (T4 Str Str D D)), x.asS2s = .ok y → toD y = x := by
  intro x y h
  cases x with
  | lst xs =>
    show D.lst (y.map ToD.d) = _
    exact congrArg D.lst (mapR_ok asS2_ok xs y h)
  | _ => cases h
theorem asS2s_x (x : D) (c : Str) : x.asS2s ≠ .exc c := by
  cases x with
  | lst xs => exact mapR_x asS2_x xs c
  | _ => intro h; cases h

/-- the empty tuple -/
structure T0 where
instance : ToD T0 := ⟨fun _ => .tup []⟩
theorem op_in_seqK {X : Cx} {K : PySem.W.Frag} (hK : X.K = K) : OpR X (compareOp .In) (rIn K false) := by subst hK; exact op_in_seq
end Mi
set_option maxHeartbeats 4000000
namespace Mi
open PySem PySem.Spec L2
def topS (i : Nat) : Stmt := PySem.Challenge.pw_curveseal_k70_good_paths.main.body.getD i (.Pass ⟨0, 0, 0, 0⟩)

abbrev s_good_path : Stmt := topS 4
theorem sc_good_path : FnScope ["roots", "log", "index", "key", "path", "entries", "authors", "made", "line", "gone", "at", "entry", "other"] ["roots", "log", "index", "key", "path"] (defScope s_good_path) := ⟨rfl, rfl, rfl, by decide +kernel, rfl, by decide +kernel, by decide +kernel⟩
abbrev s_u_ascends : Stmt := topS 5
theorem sc_u_ascends : FnScope ["numbers", "first", "second"] ["numbers"] (defScope s_u_ascends) := ⟨rfl, rfl, rfl, by decide +kernel, rfl, by decide +kernel, by decide +kernel⟩
abbrev s_common_beginning : Stmt := topS 6
theorem sc_common_beginning : FnScope ["first", "second", "count", "one", "other"] ["first", "second"] (defScope s_common_beginning) := ⟨rfl, rfl, rfl, by decide +kernel, rfl, by decide +kernel, by decide +kernel⟩
abbrev s_u_law_cell : Stmt := topS 8
theorem sc_u_law_cell : FnScope ["script", "k"] ["script", "k"] (defScope s_u_law_cell) := ⟨rfl, rfl, rfl, by decide +kernel, rfl, by decide +kernel, by decide +kernel⟩
abbrev s_u_law_key : Stmt := topS 10
theorem sc_u_law_key : FnScope ["number"] ["number"] (defScope s_u_law_key) := ⟨rfl, rfl, rfl, by decide +kernel, rfl, by decide +kernel, by decide +kernel⟩
abbrev s_u_law_entry : Stmt := topS 11
theorem sc_u_law_entry : FnScope ["cell", "author", "key", "how", "rows"] ["cell"] (defScope s_u_law_entry) := ⟨rfl, rfl, rfl, by decide +kernel, rfl, by decide +kernel, by decide +kernel⟩
abbrev s_u_law_makes : Stmt := topS 12
theorem sc_u_law_makes : FnScope ["entry"] ["entry"] (defScope s_u_law_makes) := ⟨rfl, rfl, rfl, by decide +kernel, rfl, by decide +kernel, by decide +kernel⟩
abbrev s_u_law_lead : Stmt := topS 13
theorem sc_u_law_lead : FnScope ["log", "key", "roots", "path", "at", "turn", "found", "place"] ["log", "key", "roots"] (defScope s_u_law_lead) := ⟨rfl, rfl, rfl, by decide +kernel, rfl, by decide +kernel, by decide +kernel⟩
abbrev s_u_law_changed : Stmt := topS 14
theorem sc_u_law_changed : FnScope ["path", "cell", "out", "how"] ["path", "cell"] (defScope s_u_law_changed) := ⟨rfl, rfl, rfl, by decide +kernel, rfl, by decide +kernel, by decide +kernel⟩
abbrev s_u_law_due : Stmt := topS 15
theorem sc_u_law_due : FnScope ["roots", "log", "index", "key", "path", "keys", "k", "made", "author", "entry"] ["roots", "log", "index", "key", "path"] (defScope s_u_law_due) := ⟨rfl, rfl, rfl, by decide +kernel, rfl, by decide +kernel, by decide +kernel⟩
abbrev s_law : Stmt := topS 16
theorem sc_law : FnScope ["script", "log", "roots", "given", "k", "cell", "index", "key", "path", "found", "other", "at", "due"] ["script"] (defScope s_law) := ⟨rfl, rfl, rfl, by decide +kernel, rfl, by decide +kernel, by decide +kernel⟩
def errs : List Str := []
def ancE : List (Str × List Str) := []
def subE (c d : Str) : Bool := match ancE.lookup c with | some l => decide (d ∈ l) | none => false
def k_ADMIT : Str := ("admit" : Str)
def k_REPLACE : Str := ("replace" : Str)
def k_WITHDRAW : Str := ("withdraw" : Str)
def fileS : Str := PySem.Challenge.pw_curveseal_k70_good_paths.main.file
/-! ### the head -/
def dfs : List He.DefD := [⟨("good_path", none), "good_path", "good_path", defArgs s_good_path, defBody s_good_path, defScope s_good_path, [], []⟩, ⟨("_ascends", none), "_ascends", "_ascends", defArgs s_u_ascends, defBody s_u_ascends, defScope s_u_ascends, [], []⟩, ⟨("common_beginning", none), "common_beginning", "common_beginning", defArgs s_common_beginning, defBody s_common_beginning, defScope s_common_beginning, [], []⟩, ⟨("_law_cell", none), "_law_cell", "_law_cell", defArgs s_u_law_cell, defBody s_u_law_cell, defScope s_u_law_cell, [], []⟩, ⟨("_law_key", none), "_law_key", "_law_key", defArgs s_u_law_key, defBody s_u_law_key, defScope s_u_law_key, [], []⟩, ⟨("_law_entry", none), "_law_entry", "_law_entry", defArgs s_u_law_entry, defBody s_u_law_entry, defScope s_u_law_entry, [], []⟩, ⟨("_law_makes", none), "_law_makes", "_law_makes", defArgs s_u_law_makes, defBody s_u_law_makes, defScope s_u_law_makes, [], []⟩, ⟨("_law_lead", none), "_law_lead", "_law_lead", defArgs s_u_law_lead, defBody s_u_law_lead, defScope s_u_law_lead, [], []⟩, ⟨("_law_changed", none), "_law_changed", "_law_changed", defArgs s_u_law_changed, defBody s_u_law_changed, defScope s_u_law_changed, [], []⟩, ⟨("_law_due", none), "_law_due", "_law_due", defArgs s_u_law_due, defBody s_u_law_due, defScope s_u_law_due, [], []⟩, ⟨("law", none), "law", "law", defArgs s_law, defBody s_law, defScope s_law, [], []⟩]
def sus : List SupD := []
def tbs : List He.Tab := []
def fas : List He.Fa := [.glo "good_path", .glo "_ascends", .glo "common_beginning", .glo "_law_cell", .glo "_law_key", .glo "_law_entry", .glo "_law_makes", .glo "_law_lead", .glo "_law_changed", .glo "_law_due", .glo "law", .free "abs", .free "all", .free "any", .free "bool", .free "int", .free "isinstance", .free "len", .free "list", .free "min", .free "range", .free "str", .free "tuple", .free "zip"]
def cons_ : List (Str × D) := [("ADMIT", toD k_ADMIT), ("REPLACE", toD k_REPLACE), ("WITHDRAW", toD k_WITHDRAW)]
def exB (K : PySem.W.Frag) : Bool := (clsB K errs subE && conB K cons_)
abbrev Rw : PySem.W.OpenRow := PySem.W.OpenLaw.row PySem.Challenge.rw_curveseal_k70_good_paths
def ads : List Addr := ([3, 6, 4, 19, 24, 31, 38, 45, 52, 59, 66, 73, 80, 87, 92, 0, 18, 23, 30, 37, 44, 51, 58, 65, 72, 79, 86, 91, 15, 16, 17, 20, 21, 22, 25, 26, 27, 28, 29, 32] : List Addr) ++ ([33, 34, 35, 36, 39, 40, 41, 42, 43, 46, 47, 48, 49, 50, 53, 54, 55, 56, 57, 60, 61, 62, 63, 64, 67, 68, 69, 70, 71, 74, 75, 76, 77, 78, 81, 82, 83, 84, 85, 88] : List Addr) ++ ([89, 90, 2] : List Addr)
abbrev hk : PySem.W.Hook := hookZ ads fas dfs tbs sus exB
def ob (s : PySem.W.SharedT) : AlY := obsZ ads fas dfs tbs sus exB (HandSHeadRun.getT s)
theorem ob_eq (s : PySem.W.SharedT) : ob s = hk.obs s.abs := obsZ_eq (HandSHeadRun.getT_eq s)
/-! ### pieces -/
section
open PySem PySem.W PySem.Calls PyProof.Rows HandSHeadRun
def o0 (w : World) : Obj := oD [dE w "__name__" 1 (vS "builtins" 160), dE w "__doc__" 2 (vB "builtins.__doc__:str#opaque"), dE w "__package__" 3 (vB "builtins.__package__:str#opaque"), dE w "__loader__" 4 (vB "builtins.__loader__:shared#opaque"), dE w "__spec__" 5 (vB "builtins.__spec__#opaque"), dE w "__build_class__" 6 (vB "__build_class__"), dE w "__\x69mport__" 7 (vB "__\x69mport__"), dE w "abs" 8 (vB "abs"), dE w "all" 9 (vB "all"), dE w "any" 10 (vB "any"), dE w "ascii" 11 (vB "ascii"), dE w "bin" 12 (vB "bin"), dE w "breakpoint" 13 (vB "breakpoint"), dE w "callable" 14 (vB "callable"), dE w "chr" 15 (vB "chr"), dE w "compile" 16 (vB "compile"), dE w "delattr" 17 (vB "delattr"), dE w "dir" 18 (vB "dir"), dE w "divmod" 19 (vB "divmod"), dE w "eval" 20 (vB "eval"), dE w "exec" 21 (vB "exec"), dE w "format" 22 (vB "format"), dE w "getattr" 23 (vB "getattr"), dE w "globals" 24 (vB "globals"), dE w "hasattr" 25 (vB "hasattr"), dE w "hash" 26 (vB "hash"), dE w "hex" 27 (vB "hex"), dE w "id" 28 (vB "id"), dE w "input" 29 (vB "input"), dE w "isinstance" 30 (vB "isinstance"), dE w "issubclass" 31 (vB "issubclass"), dE w "iter" 32 (vB "iter"), dE w "aiter" 33 (vB "aiter"), dE w "len" 34 (vB "len"), dE w "locals" 35 (vB "locals"), dE w "max" 36 (vB "max"), dE w "min" 37 (vB "min"), dE w "next" 38 (vB "next"), dE w "anext" 39 (vB "anext"), dE w "oct" 40 (vB "oct"), dE w "ord" 41 (vB "ord"), dE w "pow" 42 (vB "pow"), dE w "print" 43 (vB "print"), dE w "repr" 44 (vB "repr"), dE w "round" 45 (vB "round"), dE w "setattr" 46 (vB "setattr"), dE w "sorted" 47 (vB "sorted"), dE w "sum" 48 (vB "sum"), dE w "vars" 49 (vB "vars"), dE w "None" 50 vN, dE w "Ellipsis" 51 .ellipsis, dE w "NotImplemented" 52 .notImplemented, dE w "False" 53 (.bool false), dE w "True" 54 (.bool true), dE w "bool" 55 (vT "bool"), dE w "memoryview" 56 (vT "memoryview"), dE w "bytearray" 57 (vT "bytearray"), dE w "bytes" 58 (vT "bytes"), dE w "classmethod" 59 (vT "classmethod"), dE w "complex" 60 (vT "complex"), dE w "dict" 61 (vT "dict"), dE w "enumerate" 62 (vT "enumerate"), dE w "filter" 63 (vT "filter"), dE w "float" 64 (vT "float"), dE w "frozenset" 65 (vT "frozenset"), dE w "property" 66 (vT "property"), dE w "int" 67 (vT "int"), dE w "list" 68 (vT "list"), dE w "map" 69 (vT "map"), dE w "object" 70 (vT "object"), dE w "range" 71 (vT "range"), dE w "reversed" 72 (vT "reversed"), dE w "set" 73 (vT "set"), dE w "slice" 74 (vT "slice"), dE w "staticmethod" 75 (vT "staticmethod"), dE w "str" 76 (vT "str"), dE w "super" 77 (vT "super"), dE w "tuple" 78 (vT "tuple"), dE w "type" 79 (vT "type"), dE w "zip" 80 (vT "zip"), dE w "__debug__" 81 (.bool true), dE w "BaseException" 82 (vT "BaseException"), dE w "BaseExceptionGroup" 83 (vT "BaseExceptionGroup"), dE w "Exception" 84 (vT "Exception"), dE w "GeneratorExit" 85 (vT "GeneratorExit"), dE w "KeyboardInterrupt" 86 (vT "KeyboardInterrupt"), dE w "SystemExit" 87 (vT "SystemExit"), dE w "ArithmeticError" 88 (vT "ArithmeticError"), dE w "AssertionError" 89 (vT "AssertionError"), dE w "AttributeError" 90 (vT "AttributeError"), dE w "BufferError" 91 (vT "BufferError"), dE w "EOFError" 92 (vT "EOFError"), dE w "ImportError" 93 (vT "ImportError"), dE w "LookupError" 94 (vT "LookupError"), dE w "MemoryError" 95 (vT "MemoryError"), dE w "NameError" 96 (vT "NameError"), dE w "OSError" 97 (vT "OSError"), dE w "ReferenceError" 98 (vT "ReferenceError"), dE w "RuntimeError" 99 (vT "RuntimeError"), dE w "StopAsyncIteration" 100 (vT "StopAsyncIteration"), dE w "StopIteration" 101 (vT "StopIteration"), dE w "SyntaxError" 102 (vT "SyntaxError"), dE w "SystemError" 103 (vT "SystemError"), dE w "TypeError" 104 (vT "TypeError"), dE w "ValueError" 105 (vT "ValueError"), dE w "Warning" 106 (vT "Warning"), dE w "FloatingPointError" 107 (vT "FloatingPointError"), dE w "OverflowError" 108 (vT "OverflowError"), dE w "ZeroDivisionError" 109 (vT "ZeroDivisionError"), dE w "BytesWarning" 110 (vT "BytesWarning"), dE w "DeprecationWarning" 111 (vT "DeprecationWarning"), dE w "EncodingWarning" 112 (vT "EncodingWarning"), dE w "FutureWarning" 113 (vT "FutureWarning"), dE w "ImportWarning" 114 (vT "ImportWarning"), dE w "PendingDeprecationWarning" 115 (vT "PendingDeprecationWarning"), dE w "ResourceWarning" 116 (vT "ResourceWarning"), dE w "RuntimeWarning" 117 (vT "RuntimeWarning"), dE w "SyntaxWarning" 118 (vT "SyntaxWarning"), dE w "UnicodeWarning" 119 (vT "UnicodeWarning"), dE w "UserWarning" 120 (vT "UserWarning"), dE w "BlockingIOError" 121 (vT "BlockingIOError"), dE w "ChildProcessError" 122 (vT "ChildProcessError"), dE w "ConnectionError" 123 (vT "ConnectionError"), dE w "FileExistsError" 124 (vT "FileExistsError"), dE w "FileNotFoundError" 125 (vT "FileNotFoundError"), dE w "InterruptedError" 126 (vT "InterruptedError"), dE w "IsADirectoryError" 127 (vT "IsADirectoryError"), dE w "NotADirectoryError" 128 (vT "NotADirectoryError"), dE w "PermissionError" 129 (vT "PermissionError"), dE w "ProcessLookupError" 130 (vT "ProcessLookupError"), dE w "TimeoutError" 131 (vT "TimeoutError"), dE w "IndentationError" 132 (vT "IndentationError"), dE w "_IncompleteInputError" 133 (vT "_IncompleteInputError"), dE w "IndexError" 134 (vT "IndexError"), dE w "KeyError" 135 (vT "KeyError"), dE w "ModuleNotFoundError" 136 (vT "ModuleNotFoundError"), dE w "NotImplementedError" 137 (vT "NotImplementedError"), dE w "PythonFinalizationError" 138 (vT "PythonFinalizationError"), dE w "RecursionError" 139 (vT "RecursionError"), dE w "UnboundLocalError" 140 (vT "UnboundLocalError"), dE w "UnicodeError" 141 (vT "UnicodeError"), dE w "BrokenPipeError" 142 (vT "BrokenPipeError"), dE w "ConnectionAbortedError" 143 (vT "ConnectionAbortedError"), dE w "ConnectionRefusedError" 144 (vT "ConnectionRefusedError"), dE w "ConnectionResetError" 145 (vT "ConnectionResetError"), dE w "TabError" 146 (vT "TabError"), dE w "UnicodeDecodeError" 147 (vT "UnicodeDecodeError"), dE w "UnicodeEncodeError" 148 (vT "UnicodeEncodeError"), dE w "UnicodeTranslateError" 149 (vT "UnicodeTranslateError"), dE w "ExceptionGroup" 150 (vT "ExceptionGroup"), dE w "EnvironmentError" 151 (vT "OSError"), dE w "IOError" 152 (vT "OSError"), dE w "open" 153 (vB "open"), dE w "quit" 154 (vB "builtins.quit#opaque"), dE w "exit" 155 (vB "builtins.exit#opaque"), dE w "copyright" 156 (vB "builtins.copyright#opaque"), dE w "credits" 157 (vB "builtins.credits#opaque"), dE w "license" 158 (vB "builtins.license#opaque"), dE w "help" 159 (vB "builtins.help#opaque")] 159
def o1 (w : World) : Obj := oD [dE w "builtins" 162 (vR 4), dE w "__main__" 163 (vR 5)] 2
def o2 (w : World) : Obj := ⟨vN, none, .dict [].toArray 0, [].toArray⟩
def o3 (w : World) : Obj := oD [dE w "__name__" 165 (vS "__main__" 164), dE w "__doc__" 166 vN, dE w "__package__" 167 vN, dE w "__loader__" 168 (vB "__main__.__loader__#opaque"), dE w "__spec__" 169 vN, dE w "__annotations__" 170 (vR 6), dE w "__builtins__" 171 (vR 4), dE w "__file__" 173 (vS "/claim/cut.py" 172), dE w "__cached__" 174 vN] 9
def o4 : Obj := ⟨(vT "module"), (some 0), .plain, [].toArray⟩
def o5 : Obj := ⟨(vT "module"), (some 3), .plain, [].toArray⟩
def o6 (w : World) : Obj := oD [] 0
def o7 : Obj := oT []
def o8 : Obj := oF vN []
def o9 : Obj := oF (vT "code") [(vS "<module>" 176), (vS "<module>" 177), (vS "/claim/cut.py" 178), (vI (1) 0), (vI (0) 0), (vI (0) 0), (vI (0) 0), (vI (0) 0), (vR 7), (.bool false), (vI (175) 0), (vR 8), vN, vN, vN, vN, (vI (179) 0), (vI (1) 0), (vS "/claim/cut.py" 180)]
def o10 : Obj := oP (vT "frame") [(some (vR 9)), (some (vR 3)), (some (vR 3)), none, (some (vS "__main__" 164)), none, (some (vR 0))]
def o11 : Obj := oT []
def o12 : Obj := oF vN []
def o13 : Obj := oF (vT "code") [(vS "<module>" 182), (vS "<module>" 183), (vS "/claim/cut.py" 184), (vI (1) 0), (vI (0) 0), (vI (0) 0), (vI (0) 0), (vI (0) 0), (vR 11), (.bool false), (vI (181) 0), (vR 12), vN, vN, vN, vN, (vI (185) 0), (vI (1) 0), (vS "/claim/cut.py" 186)]
def o14 : Obj := oP (vT "frame") [(some (vR 13)), (some (vR 3)), (some (vR 3)), none, (some (vS "__main__" 164)), none, (some (vR 0))]
def o3_1 (w : World) : Obj := oD [dE w "__name__" 165 (vS "law_curveseal_k70_good_paths" 218), dE w "__doc__" 166 vN, dE w "__package__" 167 vN, dE w "__loader__" 168 (vB "__main__.__loader__#opaque"), dE w "__spec__" 169 vN, dE w "__annotations__" 170 (vR 6), dE w "__builtins__" 171 (vR 4), dE w "__file__" 173 (vS "/claim/cut.py" 172), dE w "__cached__" 174 vN, dE w "ADMIT" 188 (vS "admit" 187), dE w "REPLACE" 190 (vS "replace" 189), dE w "WITHDRAW" 192 (vS "withdraw" 191), dE w "good_path" 200 (vR 19), dE w "_ascends" 206 (vR 24), dE w "common_beginning" 217 (vR 31), dE w "_law_cell" 227 (vR 38), dE w "_law_twice" 236 (vR 45), dE w "_law_key" 243 (vR 52), dE w "_law_entry" 254 (vR 59), dE w "_law_makes" 261 (vR 66), dE w "_law_lead" 275 (vR 73), dE w "_law_changed" 285 (vR 80), dE w "_law_due" 301 (vR 87), dE w "law" 307 (vR 92)] 24
def o12_1 : Obj := oF vN [(vI (5) 0), (vI (0) 0), (vR 18), (vI (18) 0), (vI (0) 0), (vR 23), (vI (20) 0), (vI (0) 0), (vR 30), (vI (28) 0), (vI (0) 0), (vR 37), (vI (32) 0), (vI (0) 0), (vR 44), (vI (37) 0), (vI (0) 0), (vR 51), (vI (39) 0), (vI (0) 0), (vR 58), (vI (53) 0), (vI (0) 0), (vR 65), (vI (57) 0), (vI (0) 0), (vR 72), (vI (73) 0), (vI (0) 0), (vR 79), (vI (83) 0), (vI (0) 0), (vR 86), (vI (107) 0), (vI (0) 0), (vR 91)]
def o15 : Obj := oT []
def o16 : Obj := oF vN []
def o17 : Obj := oU vN "good_path" "good_path" (topS 4) 0 [] vN vN vN none vN vN 0 []
def o18 : Obj := oF (vT "code") [(vS "good_path" 195), (vS "good_path" 196), (vS "/claim/cut.py" 197), (vI (5) 0), (vI (5) 0), (vI (0) 0), (vI (0) 0), (vI (3) 0), (vR 15), (.bool true), (vI (181) 0), (vR 16), vN, vN, vN, (vR 17), (vI (198) 0), (vI (5) 0), (vS "/claim/cut.py" 199)]
def o19 : Obj := oU (vT "function") "good_path" "good_path" (topS 4) 3 [] vN vN (vS "curveseal.judging" 193) none (vR 18) vN 0 []
def o20 : Obj := oT []
def o21 : Obj := oF vN []
def o22 : Obj := oU vN "_ascends" "_ascends" (topS 5) 0 [] vN vN vN none vN vN 0 []
def o23 : Obj := oF (vT "code") [(vS "_ascends" 201), (vS "_ascends" 202), (vS "/claim/cut.py" 203), (vI (18) 0), (vI (1) 0), (vI (0) 0), (vI (0) 0), (vI (3) 0), (vR 20), (.bool true), (vI (181) 0), (vR 21), vN, vN, vN, (vR 22), (vI (204) 0), (vI (18) 0), (vS "/claim/cut.py" 205)]
def o24 : Obj := oU (vT "function") "_ascends" "_ascends" (topS 5) 3 [] vN vN (vS "curveseal.judging" 193) none (vR 23) vN 0 []
def o25 : Obj := oT []
def o26 : Obj := oF vN []
def o27 : Obj := oT [(vS "first" 210), (vS "second" 211), (vS "count" 212), (vS "one" 213), (vS "other" 214)]
def o28 : Obj := oT []
def o29 : Obj := oU vN "common_beginning" "common_beginning" (topS 6) 0 [] vN vN vN none vN vN 0 []
def o30 : Obj := oF (vT "code") [(vS "common_beginning" 207), (vS "common_beginning" 208), (vS "/claim/cut.py" 209), (vI (20) 0), (vI (2) 0), (vI (0) 0), (vI (0) 0), (vI (3) 0), (vR 25), (.bool true), (vI (181) 0), (vR 26), vN, (vR 27), (vR 28), (vR 29), (vI (215) 0), (vI (20) 0), (vS "/claim/cut.py" 216)]
def o31 : Obj := oU (vT "function") "common_beginning" "common_beginning" (topS 6) 3 [] vN vN (vS "curveseal.judging" 193) none (vR 30) vN 0 []
def o32 : Obj := oT []
def o33 : Obj := oF vN []
def o34 : Obj := oT [(vS "script" 223), (vS "k" 224)]
def o35 : Obj := oT []
def o36 : Obj := oU vN "_law_cell" "_law_cell" (topS 8) 0 [] vN vN vN none vN vN 0 []
def o37 : Obj := oF (vT "code") [(vS "_law_cell" 220), (vS "_law_cell" 221), (vS "/claim/cut.py" 222), (vI (28) 0), (vI (2) 0), (vI (0) 0), (vI (0) 0), (vI (3) 0), (vR 32), (.bool true), (vI (181) 0), (vR 33), vN, (vR 34), (vR 35), (vR 36), (vI (225) 0), (vI (28) 0), (vS "/claim/cut.py" 226)]
def o38 : Obj := oU (vT "function") "_law_cell" "_law_cell" (topS 8) 3 [] vN vN (vS "law_curveseal_k70_good_paths" 218) none (vR 37) vN 0 []
def o39 : Obj := oT []
def o40 : Obj := oF vN []
def o41 : Obj := oT [(vS "cell" 231), (vS "k" 232), (vS "x" 233)]
def o42 : Obj := oT []
def o43 : Obj := oU vN "_law_twice" "_law_twice" (topS 9) 0 [] vN vN vN none vN vN 0 []
def o44 : Obj := oF (vT "code") [(vS "_law_twice" 228), (vS "_law_twice" 229), (vS "/claim/cut.py" 230), (vI (32) 0), (vI (2) 0), (vI (0) 0), (vI (0) 0), (vI (3) 0), (vR 39), (.bool true), (vI (181) 0), (vR 40), vN, (vR 41), (vR 42), (vR 43), (vI (234) 0), (vI (32) 0), (vS "/claim/cut.py" 235)]
def o45 : Obj := oU (vT "function") "_law_twice" "_law_twice" (topS 9) 3 [] vN vN (vS "law_curveseal_k70_good_paths" 218) none (vR 44) vN 0 []
def o46 : Obj := oT []
def o47 : Obj := oF vN []
def o48 : Obj := oT [(vS "number" 240)]
def o49 : Obj := oT []
def o50 : Obj := oU vN "_law_key" "_law_key" (topS 10) 0 [] vN vN vN none vN vN 0 []
def o51 : Obj := oF (vT "code") [(vS "_law_key" 237), (vS "_law_key" 238), (vS "/claim/cut.py" 239), (vI (37) 0), (vI (1) 0), (vI (0) 0), (vI (0) 0), (vI (3) 0), (vR 46), (.bool true), (vI (181) 0), (vR 47), vN, (vR 48), (vR 49), (vR 50), (vI (241) 0), (vI (37) 0), (vS "/claim/cut.py" 242)]
def o52 : Obj := oU (vT "function") "_law_key" "_law_key" (topS 10) 3 [] vN vN (vS "law_curveseal_k70_good_paths" 218) none (vR 51) vN 0 []
def o53 : Obj := oT []
def o54 : Obj := oF vN []
def o55 : Obj := oT [(vS "cell" 247), (vS "author" 248), (vS "key" 249), (vS "how" 250), (vS "rows" 251)]
def o56 : Obj := oT []
def o57 : Obj := oU vN "_law_entry" "_law_entry" (topS 11) 0 [] vN vN vN none vN vN 0 []
def o58 : Obj := oF (vT "code") [(vS "_law_entry" 244), (vS "_law_entry" 245), (vS "/claim/cut.py" 246), (vI (39) 0), (vI (1) 0), (vI (0) 0), (vI (0) 0), (vI (3) 0), (vR 53), (.bool true), (vI (181) 0), (vR 54), vN, (vR 55), (vR 56), (vR 57), (vI (252) 0), (vI (39) 0), (vS "/claim/cut.py" 253)]
def o59 : Obj := oU (vT "function") "_law_entry" "_law_entry" (topS 11) 3 [] vN vN (vS "law_curveseal_k70_good_paths" 218) none (vR 58) vN 0 []
def o60 : Obj := oT []
def o61 : Obj := oF vN []
def o62 : Obj := oT [(vS "entry" 258)]
def o63 : Obj := oT []
def o64 : Obj := oU vN "_law_makes" "_law_makes" (topS 12) 0 [] vN vN vN none vN vN 0 []
def o65 : Obj := oF (vT "code") [(vS "_law_makes" 255), (vS "_law_makes" 256), (vS "/claim/cut.py" 257), (vI (53) 0), (vI (1) 0), (vI (0) 0), (vI (0) 0), (vI (3) 0), (vR 60), (.bool true), (vI (181) 0), (vR 61), vN, (vR 62), (vR 63), (vR 64), (vI (259) 0), (vI (53) 0), (vS "/claim/cut.py" 260)]
def o66 : Obj := oU (vT "function") "_law_makes" "_law_makes" (topS 12) 3 [] vN vN (vS "law_curveseal_k70_good_paths" 218) none (vR 65) vN 0 []
def o67 : Obj := oT []
def o68 : Obj := oF vN []
def o69 : Obj := oT [(vS "log" 265), (vS "key" 266), (vS "roots" 267), (vS "path" 268), (vS "at" 269), (vS "turn" 270), (vS "found" 271), (vS "place" 272)]
def o70 : Obj := oT []
def o71 : Obj := oU vN "_law_lead" "_law_lead" (topS 13) 0 [] vN vN vN none vN vN 0 []
def o72 : Obj := oF (vT "code") [(vS "_law_lead" 262), (vS "_law_lead" 263), (vS "/claim/cut.py" 264), (vI (57) 0), (vI (3) 0), (vI (0) 0), (vI (0) 0), (vI (3) 0), (vR 67), (.bool true), (vI (181) 0), (vR 68), vN, (vR 69), (vR 70), (vR 71), (vI (273) 0), (vI (57) 0), (vS "/claim/cut.py" 274)]
def o73 : Obj := oU (vT "function") "_law_lead" "_law_lead" (topS 13) 3 [] vN vN (vS "law_curveseal_k70_good_paths" 218) none (vR 72) vN 0 []
def o74 : Obj := oT []
def o75 : Obj := oF vN []
def o76 : Obj := oT [(vS "path" 279), (vS "cell" 280), (vS "out" 281), (vS "how" 282)]
def o77 : Obj := oT []
def o78 : Obj := oU vN "_law_changed" "_law_changed" (topS 14) 0 [] vN vN vN none vN vN 0 []
def o79 : Obj := oF (vT "code") [(vS "_law_changed" 276), (vS "_law_changed" 277), (vS "/claim/cut.py" 278), (vI (73) 0), (vI (2) 0), (vI (0) 0), (vI (0) 0), (vI (3) 0), (vR 74), (.bool true), (vI (181) 0), (vR 75), vN, (vR 76), (vR 77), (vR 78), (vI (283) 0), (vI (73) 0), (vS "/claim/cut.py" 284)]
def o80 : Obj := oU (vT "function") "_law_changed" "_law_changed" (topS 14) 3 [] vN vN (vS "law_curveseal_k70_good_paths" 218) none (vR 79) vN 0 []
def o81 : Obj := oT []
def o82 : Obj := oF vN []
def o83 : Obj := oT [(vS "roots" 289), (vS "log" 290), (vS "index" 291), (vS "key" 292), (vS "path" 293), (vS "keys" 294), (vS "k" 295), (vS "made" 296), (vS "author" 297), (vS "entry" 298)]
def o84 : Obj := oT []
def o85 : Obj := oU vN "_law_due" "_law_due" (topS 15) 0 [] vN vN vN none vN vN 0 []
def o86 : Obj := oF (vT "code") [(vS "_law_due" 286), (vS "_law_due" 287), (vS "/claim/cut.py" 288), (vI (83) 0), (vI (5) 0), (vI (0) 0), (vI (0) 0), (vI (3) 0), (vR 81), (.bool true), (vI (181) 0), (vR 82), vN, (vR 83), (vR 84), (vR 85), (vI (299) 0), (vI (83) 0), (vS "/claim/cut.py" 300)]
def o87 : Obj := oU (vT "function") "_law_due" "_law_due" (topS 15) 3 [] vN vN (vS "law_curveseal_k70_good_paths" 218) none (vR 86) vN 0 []
def o88 : Obj := oT []
def o89 : Obj := oF vN []
def o90 : Obj := oU vN "law" "law" (topS 16) 0 [] vN vN vN none vN vN 0 []
def o91 : Obj := oF (vT "code") [(vS "law" 302), (vS "law" 303), (vS "/claim/cut.py" 304), (vI (107) 0), (vI (1) 0), (vI (0) 0), (vI (0) 0), (vI (3) 0), (vR 88), (.bool true), (vI (181) 0), (vR 89), vN, vN, vN, (vR 90), (vI (305) 0), (vI (107) 0), (vS "/claim/cut.py" 306)]
def o92 : Obj := oU (vT "function") "law" "law" (topS 16) 3 [] vN vN (vS "law_curveseal_k70_good_paths" 218) none (vR 91) vN 0 []
def b0_0 (w : World) : List Obj := [o0 w, o1 w, o2 w, o3 w, o4, o5, o6 w, o7, o8, o9, o10]
def S_x (w : World) : SharedT := ⟨trF 16 (b0_0 w), 11, {}, #[], {}, 181, {}⟩
def b0_1 (w : World) : List Obj := [o0 w, o1 w, o2 w, o3 w, o4, o5, o6 w, o7, o8, o9, o10, o11, o12, o13, o14]
def S_s (w : World) : SharedT := ⟨trF 16 (b0_1 w), 15, {}, #[], {}, 187, {}⟩
def b0_2 (w : World) : List Obj := [o0 w, o1 w, o2 w, o3_1 w, o4, o5, o6 w, o7, o8, o9, o10, o11, o12_1, o13, o14, o15, o16, o17, o18, o19, o20, o21, o22, o23, o24, o25, o26, o27, o28, o29, o30, o31, o32, o33, o34, o35, o36, o37, o38, o39]
def b1_2 (w : World) : List Obj := [o40, o41, o42, o43, o44, o45, o46, o47, o48, o49, o50, o51, o52, o53, o54, o55, o56, o57, o58, o59, o60, o61, o62, o63, o64, o65, o66, o67, o68, o69, o70, o71, o72, o73, o74, o75, o76, o77, o78, o79]
def b2_2 (w : World) : List Obj := [o80, o81, o82, o83, o84, o85, o86, o87, o88, o89, o90, o91, o92]
def S_p0 (w : World) : SharedT := ⟨trF 16 (b0_2 w ++ (b1_2 w ++ (b2_2 w))), 93, {}, #[], {}, 308, {}⟩
def S_f (w : World) : SharedT := ⟨trF 16 (b0_2 w ++ (b1_2 w ++ (b2_2 w))), 93, {}, #[], {}, 308, {}⟩
abbrev annP : Option Value := (some (vR 6))
def envP : Env := envT Rw.prog (vR 13) 14
def codP : Code := .body (behindTheImports Rw.prog) envP
abbrev stkP : List Frame := frT1 (.builtin "claim.caller" {}) ⟨0, 0, 0, 0⟩
def cutP (a b : Nat) : List Stmt := ((behindTheImports Rw.prog).drop a).take (b - a)
def L_x (w : World) : List Obj := [o0 w, o1 w, o2 w, o3 w, o4, o5, o6 w, o7, o8, o9, o10]
theorem op_ (w : World) : openQ w 20000000 Rw.prog = some (L_x w, (S_x w).life, (S_x w).gens, (S_x w).drawn, (S_x w).toks, (S_x w).os) := by
  kernel_rfl
theorem xl_ (w : World) : (S_x w).abs.heap.objs.toList = L_x w := by
  kernel_rfl
theorem xg_ (w : World) : ((S_x w).abs.heap.isNs mainGlobals && (S_x w).abs.gens.size == 0) = true := by
  kernel_rfl
theorem xn_ (w : World) : (S_x w).abs.heap.objs.size = 11 := by
  kernel_rfl
theorem xa_ (w : World) : (S_x w).abs.heap.nsMap mainGlobals "__annotations__" = annP := by
  kernel_rfl
theorem st_ (w : World) : startB (stQ Rw.prog w) 11 annP Rw.prog (S_x w) = some (S_s w, (vR 13), 14, .builtin "claim.caller" {}, ⟨0, 0, 0, 0⟩, codP, ⟨0, 0, 0, 0⟩) := by
  kernel_rfl
theorem pc_p0 (w : World) : sgRun (stQ Rw.prog w) 11 annP stkP.length 40000 (S_s w) ⟨(execs (cutP 0 17) envP).wrap (fun f => .pure (.done (id f))) deadEnd id id, codP, ⟨0, 0, 0, 0⟩, stkP⟩ = some (.next, S_p0 w, codP, ⟨107, 0, 130, 123⟩) := by
  kernel_rfl
theorem fin_ (w : World) : goF (stQ Rw.prog w) 11 annP 40000 (S_p0 w) ⟨(execs [] envP).wrap doneF (leaveH envP) id id, codP, ⟨107, 0, 130, 123⟩, stkP⟩ = some (S_f w) := by
  kernel_rfl
theorem body_ : behindTheImports Rw.prog = (cutP 0 17 ++ []) := by
  kernel_rfl
theorem runp_ (w : World) : RunP Rw.prog w 11 annP envP stkP (cutP 0 17 ++ []) (S_s w) codP ⟨0, 0, 0, 0⟩ (40000 + (40000)) (S_f w) :=
  runP_app rfl (pc_p0 w) (runP_nil (fin_ w))
theorem runw_ (w : World) : RunW Rw.prog w 20000000 (fuelT + (fuelT + (1 + (fuelT + (40000 + (40000)))))) (S_x w) (S_f w) := runW_of (op_ w) (xl_ w) (xg_ w) (xn_ w) (xa_ w) (st_ w) (body_ ▸ runp_ w)
theorem lk1_ (w : World) : HandSHeadRun.looksF Rw.prog (S_x w).abs.heap (S_f w).abs = true := by
  kernel_rfl
theorem lk2_ (w : World) : HandSHeadRun.seenQ (PySem.W.view Rw.prog [16]) ((["good_path", "_ascends", "common_beginning", "_law_cell", "_law_twice", "_law_key", "_law_entry", "_law_makes", "_law_lead", "_law_changed", "_law_due", "ADMIT", "REPLACE", "WITHDRAW"] : List Str)) (importedModules Rw.prog.main.body) (fun s => xlAt (PySem.W.view Rw.prog [16]) [] s && recOk Rw.toRowW.records s) (S_f w).abs = PySem.W.openGood (PySem.W.view Rw.prog [16]) ((["good_path", "_ascends", "common_beginning", "_law_cell", "_law_twice", "_law_key", "_law_entry", "_law_makes", "_law_lead", "_law_changed", "_law_due", "ADMIT", "REPLACE", "WITHDRAW"] : List Str)) := by
  kernel_rfl
theorem lk3_ (w : World) : ob (S_f w) = hk.val w := by
  kernel_rfl
abbrev fuelQ : Nat := fuelT + (fuelT + (1 + (fuelT + (40000 + (40000)))))
end
abbrev FnP (K : PySem.W.Frag) (x q : Str) (st : Stmt) (f : Addr) (fd : FuncData) : Prop := FunD K x q (defArgs st) (defBody st) (defScope st) [] [] f fd
abbrev FnPk (kws : List (Str × V)) (K : PySem.W.Frag) (x q : Str) (st : Stmt) (f : Addr) (fd : FuncData) : Prop := FunD K x q (defArgs st) (defBody st) (defScope st) [] kws f fd
structure Facts (P : Program) (w : World) (K : PySem.W.Frag) (mg : Str → Option Value) : Prop where
  d_good_path : ∃ fd, FnP K "good_path" "good_path" s_good_path (He.ga K "good_path") fd
  g_good_path : mg "good_path" = some (.ref (He.ga K "good_path"))
  d_u_ascends : ∃ fd, FnP K "_ascends" "_ascends" s_u_ascends (He.ga K "_ascends") fd
  g_u_ascends : mg "_ascends" = some (.ref (He.ga K "_ascends"))
  d_common_beginning : ∃ fd, FnP K "common_beginning" "common_beginning" s_common_beginning (He.ga K "common_beginning") fd
  g_common_beginning : mg "common_beginning" = some (.ref (He.ga K "common_beginning"))
  d_u_law_cell : ∃ fd, FnP K "_law_cell" "_law_cell" s_u_law_cell (He.ga K "_law_cell") fd
  g_u_law_cell : mg "_law_cell" = some (.ref (He.ga K "_law_cell"))
  d_u_law_key : ∃ fd, FnP K "_law_key" "_law_key" s_u_law_key (He.ga K "_law_key") fd
  g_u_law_key : mg "_law_key" = some (.ref (He.ga K "_law_key"))
  d_u_law_entry : ∃ fd, FnP K "_law_entry" "_law_entry" s_u_law_entry (He.ga K "_law_entry") fd
  g_u_law_entry : mg "_law_entry" = some (.ref (He.ga K "_law_entry"))
  d_u_law_makes : ∃ fd, FnP K "_law_makes" "_law_makes" s_u_law_makes (He.ga K "_law_makes") fd
  g_u_law_makes : mg "_law_makes" = some (.ref (He.ga K "_law_makes"))
  d_u_law_lead : ∃ fd, FnP K "_law_lead" "_law_lead" s_u_law_lead (He.ga K "_law_lead") fd
  g_u_law_lead : mg "_law_lead" = some (.ref (He.ga K "_law_lead"))
  d_u_law_changed : ∃ fd, FnP K "_law_changed" "_law_changed" s_u_law_changed (He.ga K "_law_changed") fd
  g_u_law_changed : mg "_law_changed" = some (.ref (He.ga K "_law_changed"))
  d_u_law_due : ∃ fd, FnP K "_law_due" "_law_due" s_u_law_due (He.ga K "_law_due") fd
  g_u_law_due : mg "_law_due" = some (.ref (He.ga K "_law_due"))
  d_law : ∃ fd, FnP K "law" "law" s_law (He.ga K "law") fd
  g_law : mg "law" = some (.ref (He.ga K "law"))
  n_abs : mg "abs" = none
  n_all : mg "all" = none
  n_any : mg "any" = none
  n_bool : mg "bool" = none
  n_int : mg "int" = none
  n_isinstance : mg "isinstance" = none
  n_len : mg "len" = none
  n_list : mg "list" = none
  n_min : mg "min" = none
  n_range : mg "range" = none
  n_str : mg "str" = none
  n_tuple : mg "tuple" = none
  n_zip : mg "zip" = none
  c_ADMIT : ConF K mg "ADMIT" (toD k_ADMIT)
  c_REPLACE : ConF K mg "REPLACE" (toD k_REPLACE)
  c_WITHDRAW : ConF K mg "WITHDRAW" (toD k_WITHDRAW)
noncomputable def m_u_ascends (numbers_ : (List Int)) : Res Bool :=
  (((Res.ok (List.zipWith T2.mk numbers_ (cutL numbers_ (some (1 : Int)) none))).bind fun (xs2 : List (T2 Int Int)) => Res.need (xs2.length ≤ 16777216) (compL (fun (x1 : (T2 Int Int)) => Res.ok true) (fun (x1 : (T2 Int Int)) => (Res.ok (decide (x1.a < x1.b)))) xs2)).bind fun a3 => Res.ok (a3, ())).bind fun p5 => Res.ok ((p5.1).all id)
theorem ok_u_ascends {P : Program} {w : World} {K : PySem.W.Frag} {mg : Str → Option Value} {base : Heap} (T : Facts P w K mg) {fd : FuncData} (F : FnP K "_ascends" "_ascends" s_u_ascends (He.ga K "_ascends") fd) :
    FnOk P w K mg base (L2.CX P w) 1 (He.ga K "_ascends") fd ["numbers"] (spM K (fun (p : (List Int) × Unit) => m_u_ascends p.1)) := by
  refine fn_ok F sc_u_ascends (fun y => rfl) (fun cdv A outer s H E hr => ?_)
  refine ⟨_, (pss_one (ps_ret (pe_callB (cr_all rfl) (by rfl) T.n_all (by decide +kernel) (pa_cons (pe_lc (own := [("first", 1), ("second", 2)]) rfl sc_u_ascends.nd (pi_zipK rfl rfl T.n_zip (pa_cons (pv 0) (pa_cons (pe_slice (cr_slL rfl) (pv 0) (po_some pe_int) po_none) pa_nil))) (blkOk_by (own := [("first", 1), ("second", 2)]) (N := ["numbers", "first", "second"]) (sc := defScope s_u_ascends) (by decide +kernel)) (fun _ _ _ _ _ => (pg_tupK (n := 2) rfl rfl (pgs_cons (pg_name (i := 1) sc_u_ascends.nd rfl (Or.inl rfl)) (pgs_cons (pg_name (i := 2) sc_u_ascends.nd rfl (Or.inl rfl)) pgs_nil)))) (fun _ _ _ _ _ => pts_nil) (fun _ _ _ _ _ => (pe_cmpR op_lt (pv 1) (pv 2) (nomark _)))) pa_nil)))), ?_⟩
  rintro ⟨numbers_, ⟨⟩⟩ F0 H0 Q KP L
  show Blk K F0 H0 KP _ [iM numbers_, none, none] (m_u_ascends numbers_)
  unfold m_u_ascends
  have hr_ := ((ev_cb cx_all (fun _ _ h => nomatch h) (ea_cons (ev_ofN (ev_comp (tst := fun (x1 : (T2 Int Int)) => Res.ok true) (el := fun (x1 : (T2 Int Int)) => (Res.ok (decide (x1.a < x1.b)))) (ws := [1, 2]) (ei_zip (ea_cons (ev_var (i := 0) (x := numbers_) rfl) (ea_cons (ev_ofN (en_slice (lo := (some (1 : Int))) (hi := none) (ev_var (i := 0) (x := numbers_) rfl) to_int to_none)) ea_nil))) (fun _ => (gx_tup (n := 2) (gxs_cons gx_name (gxs_cons gx_name gxs_nil)) rfl)) (fun x1 => et_yes) (fun x1 => ((ev_op (opx_B0 (g := fun i j => decide (i < j))) mild_ok (ev_var (i := 1) (x := x1.a) rfl) (ev_var (i := 2) (x := x1.b) rfl)) : EvX K WT [iM numbers_, iM x1.a, iM x1.b] _ _)))) ea_nil)) : EvX K (W0 E) [iM numbers_, none, none] _ _)
  exact blk_ret L trivial (by exact hr_)
noncomputable def m_good_path (roots_ : (List Str)) (log_ : (List (T4 Str Str D D))) (index_ : Int) (key_ : Str) (path_ : (List Int)) : Res Bool :=
  (cond (decide (((log_).length : Int) < index_)) (Res.ok true) (((((Res.need (([(-(1 : Int))] : List Int).length + path_.length ≤ 16777216) (Res.ok (([(-(1 : Int))] : List Int) ++ path_))).bind fun (t6 : (List Int)) => Res.need (t6.length + ([index_] : List Int).length ≤ 16777216) (Res.ok (t6 ++ ([index_] : List Int)))).bind fun a7 => Res.ok (a7, ())).bind fun p9 => m_u_ascends p9.1).bind fun (t10 : Bool) => Res.ok (!t10))).bind fun b => cond b   ((Res.ok false))   ((((Res.ok path_)).bind fun (xs12 : List Int) => Res.need (xs12.length ≤ 16777216) (compL (fun (x11 : Int) => Res.ok true) (fun (x11 : Int) => idx log_ x11) xs12)).bind fun (entries_ : (List (T4 Str Str D D))) =>   ((((((Res.ok entries_)).bind fun (xs15 : List (T4 Str Str D D)) => Res.need (xs15.length ≤ 16777216) (compL (fun (x13 : (T4 Str Str D D)) => Res.ok true) (fun (x13 : (T4 Str Str D D)) => (Res.ok (decide (x13.a ∈ (((fun (x : (T2 Str Str)) => Tu.mk [x.a, x.b]) (T2.mk k_ADMIT k_REPLACE))).xs)))) xs15)).bind fun a16 => Res.ok (a16, ())).bind fun p18 => Res.ok ((p18.1).all id)).bind fun (t19 : Bool) => Res.ok (!t19)).bind fun b => cond b   ((Res.ok false))   ((((Res.ok entries_)).bind fun (xs21 : List (T4 Str Str D D)) => Res.need (xs21.length ≤ 16777216) (compL (fun (x20 : (T4 Str Str D D)) => Res.ok true) (fun (x20 : (T4 Str Str D D)) => (Res.ok x20.b)) xs21)).bind fun (authors_ : (List Str)) =>   (((Res.ok entries_)).bind fun (xs24 : List (T4 Str Str D D)) => Res.need (xs24.length ≤ 16777216) (compL (fun (x22 : (T4 Str Str D D)) => Res.ok true) (fun (x22 : (T4 Str Str D D)) => ((((Res.ok x22.c)).bind D.asTu).bind fun (t23 : (Tu D)) => idx (t23).xs (0 : Int)).bind D.asStr) xs24)).bind fun (made_ : (List Str)) =>   (cond (decide ((0 : Int) < ((path_).length : Int))) (Res.need ((cutL authors_ none (some (1 : Int))).length + made_.length ≤ 16777216) (Res.ok ((cutL authors_ none (some (1 : Int))) ++ made_))) ((Res.ok ([key_] : List Str)))).bind fun (line_ : (List Str)) =>   (((idx line_ (0 : Int)).bind fun (t25 : Str) => Res.ok (!decide (t25 ∈ roots_))).bind fun b31 => cond b31 (Res.ok true) (((idx line_ (-(1 : Int))).bind fun (t26 : Str) => Res.ok (!(t26 == key_))).bind fun b30 => cond b30 (Res.ok true) (((Res.ok none).bind fun (lo27 : Option Int) => (Res.ok (some (-(1 : Int)))).bind fun (hi28 : Option Int) => Res.ok (cutL made_ lo27 hi28)).bind fun (t29 : (List Str)) => Res.need ((toD (cutL authors_ (some (1 : Int)) none)).okq = true ∧ (toD t29).okq = true) (Res.ok (!pyEq (toD (cutL authors_ (some (1 : Int)) none)) (toD t29)))))).bind fun b => cond b   ((Res.ok false))   ((((Res.ok none).bind fun (lo32 : Option Int) => (Res.ok (some index_)).bind fun (hi33 : Option Int) => Res.ok (cutL log_ lo32 hi33)).bind fun (xs36 : List (T4 Str Str D D)) => Res.need (xs36.length ≤ 16777216) (compL (fun (x34 : (T4 Str Str D D)) => (Res.ok (x34.a == k_WITHDRAW))) (fun (x34 : (T4 Str Str D D)) => ((((Res.ok x34.c)).bind D.asTu).bind fun (t35 : (Tu D)) => idx (t35).xs (0 : Int)).bind D.asStr) xs36)).bind fun (gone_ : (List Str)) =>   (((((Res.ok line_)).bind fun (xs38 : List Str) => Res.need (xs38.length ≤ 16777216) (compL (fun (x37 : Str) => Res.ok true) (fun (x37 : Str) => (Res.ok (decide (x37 ∈ gone_)))) xs38)).bind fun a39 => Res.ok (a39, ())).bind fun p41 => Res.ok ((p41.1).any id)).bind fun (t42 : Bool) => Res.ok (!t42))))
theorem ok_good_path {P : Program} {w : World} {K : PySem.W.Frag} {mg : Str → Option Value} {base : Heap} (T : Facts P w K mg) {fd : FuncData} (F : FnP K "good_path" "good_path" s_good_path (He.ga K "good_path") fd) :
    FnOk P w K mg base (L2.CX P w) 2 (He.ga K "good_path") fd ["roots", "log", "index", "key", "path"] (spM K (fun (p : (List Str) × (List (T4 Str Str D D)) × Int × Str × (List Int) × Unit) => m_good_path p.1 p.2.1 p.2.2.1 p.2.2.2.1 p.2.2.2.2.1)) := by
  obtain ⟨fd_u_ascends, F_u_ascends⟩ := T.d_u_ascends
  have G_u_ascends := ok_u_ascends (P := P) (w := w) (base := base) T F_u_ascends
  have b_u_ascends : Binds K fd_u_ascends ["numbers"] [] := F_u_ascends.bindsN fun _ _ _ _ _ _ us hl => match us, hl with | [_], _ => rfl
  refine fn_ok F sc_good_path (fun y => rfl) (fun cdv A outer s H E hr => ?_)
  refine ⟨_, (pss_cons (ps_if (PW.pt (pw_or (pt_cmpR op_gt (pv 2) (pe_callB (cr_len rfl) (by rfl) T.n_len (by decide +kernel) (pa_cons (pv 1) pa_nil)) (nomark _)) (pw_or1 (pt_not (pt_val (pe_callS G_u_ascends (hr.mono (by decide)) rfl T.g_u_ascends F_u_ascends.kp b_u_ascends (fun σ => passAt (takes_of rfl rfl rfl rfl) σ) (pa_cons (pe_op op_cat (pe_op op_cat (pe_lst (pa_cons (pe_un un_neg pe_int) pa_nil)) (pv 4)) (pe_lst (pa_cons (pv 2) pa_nil))) pa_nil))))))) (pss_one (ps_ret pe_bl)) pss_nil) (pss_cons (ps_setLc (i := 5) (own := [("at", 10)]) rfl sc_good_path.nd rfl rfl (sw_true rfl rfl rfl (by decide +kernel)) (pi_list (pv 4)) (blkOk_by (own := [("at", 10)]) (N := ["roots", "log", "index", "key", "path", "entries", "authors", "made", "line", "gone", "at", "entry", "other"]) (sc := defScope s_good_path) (by decide +kernel)) (fun _ _ _ _ _ => (pg_name (i := 10) sc_good_path.nd rfl (Or.inl rfl))) (fun _ _ _ _ _ => pts_nil) (fun _ _ _ _ _ => (pe_ix (cr_ixL rfl) (pv 1) (pv 10) (fun _ _ => rfl)))) (pss_cons (ps_if (pt_not (pt_val (pe_callB (cr_all rfl) (by rfl) T.n_all (by decide +kernel) (pa_cons (pe_lc (own := [("entry", 11)]) rfl sc_good_path.nd (pi_list (pv 5)) (blkOk_by (own := [("entry", 11)]) (N := ["roots", "log", "index", "key", "path", "entries", "authors", "made", "line", "gone", "at", "entry", "other"]) (sc := defScope s_good_path) (by decide +kernel)) (fun _ _ _ _ _ => (pg_name (i := 11) sc_good_path.nd rfl (Or.inl rfl))) (fun _ _ _ _ _ => pts_nil) (fun _ _ _ _ _ => (pe_cmpR (op_in_seqK rfl) (pe_ix (cr_ixT rfl) (pv 11) pe_int (fun _ _ => rfl)) (pe_tup (pa_cons (pe_glob (v := T.c_ADMIT.v) rfl T.c_ADMIT.m T.c_ADMIT.r) (pa_cons (pe_glob (v := T.c_REPLACE.v) rfl T.c_REPLACE.m T.c_REPLACE.r) pa_nil))) rfl))) pa_nil)))) (pss_one (ps_ret pe_bl)) pss_nil) (pss_cons (ps_setLc (i := 6) (own := [("entry", 11)]) rfl sc_good_path.nd rfl rfl (sw_true rfl rfl rfl (by decide +kernel)) (pi_list (pv 5)) (blkOk_by (own := [("entry", 11)]) (N := ["roots", "log", "index", "key", "path", "entries", "authors", "made", "line", "gone", "at", "entry", "other"]) (sc := defScope s_good_path) (by decide +kernel)) (fun _ _ _ _ _ => (pg_name (i := 11) sc_good_path.nd rfl (Or.inl rfl))) (fun _ _ _ _ _ => pts_nil) (fun _ _ _ _ _ => (pe_ix (cr_ixT rfl) (pv 11) pe_int (fun _ _ => rfl)))) (pss_cons (ps_setLc (i := 7) (own := [("entry", 11)]) rfl sc_good_path.nd rfl rfl (sw_true rfl rfl rfl (by decide +kernel)) (pi_list (pv 5)) (blkOk_by (own := [("entry", 11)]) (N := ["roots", "log", "index", "key", "path", "entries", "authors", "made", "line", "gone", "at", "entry", "other"]) (sc := defScope s_good_path) (by decide +kernel)) (fun _ _ _ _ _ => (pg_name (i := 11) sc_good_path.nd rfl (Or.inl rfl))) (fun _ _ _ _ _ => pts_nil) (fun _ _ _ _ _ => (pe_ix (cr_ixT rfl) (pe_ix (cr_ixT rfl) (pv 11) pe_int (fun _ _ => rfl)) pe_int (fun _ _ => rfl)))) (pss_cons (ps_set (i := 8) sc_good_path.nd rfl (Or.inl rfl) (pe_ifExp (pt_cmpR op_gt (pe_callB (cr_len rfl) (by rfl) T.n_len (by decide +kernel) (pa_cons (pv 4) pa_nil)) pe_int (nomark _)) (pe_op op_cat (pe_slice (cr_slL rfl) (pv 6) po_none (po_some pe_int)) (pv 7)) (pe_lst (pa_cons (pv 3) pa_nil)))) (pss_cons (ps_if (PW.pt (pw_or (pt_cmpR op_notIn_seq (pe_ix (cr_ixL rfl) (pv 8) pe_int (fun _ _ => rfl)) (pv 0) rfl) (pw_or (pt_cmpR op_ne (pe_ix (cr_ixL rfl) (pv 8) (pe_un un_neg pe_int) (fun _ _ => rfl)) (pv 3) (nomark _)) (pw_or1 (pt_cmpR (op_neD (Room.units hr)) (pe_slice (cr_slL rfl) (pv 6) (po_some pe_int) po_none) (pe_slice (cr_slL rfl) (pv 7) po_none (po_some (pe_un un_neg pe_int))) (nomark _)))))) (pss_one (ps_ret pe_bl)) pss_nil) (pss_cons (ps_set (i := 9) sc_good_path.nd rfl (Or.inr rfl) (pe_lc (own := [("entry", 11)]) rfl sc_good_path.nd (pi_list (pe_slice (cr_slL rfl) (pv 1) po_none (po_some (pv 2)))) (blkOk_by (own := [("entry", 11)]) (N := ["roots", "log", "index", "key", "path", "entries", "authors", "made", "line", "gone", "at", "entry", "other"]) (sc := defScope s_good_path) (by decide +kernel)) (fun _ _ _ _ _ => (pg_name (i := 11) sc_good_path.nd rfl (Or.inl rfl))) (fun _ _ _ _ _ => (pts_one (pt_cmpR op_eq (pe_ix (cr_ixT rfl) (pv 11) pe_int (fun _ _ => rfl)) (pe_glob (v := T.c_WITHDRAW.v) rfl T.c_WITHDRAW.m T.c_WITHDRAW.r) (nomark _)))) (fun _ _ _ _ _ => (pe_ix (cr_ixT rfl) (pe_ix (cr_ixT rfl) (pv 11) pe_int (fun _ _ => rfl)) pe_int (fun _ _ => rfl)))) (sw_cell rfl)) (pss_one (ps_ret (pe_not (pe_callB (cr_any rfl) (by rfl) T.n_any (by decide +kernel) (pa_cons (pe_lc (own := [("other", 12)]) rfl sc_good_path.nd (pi_list (pv 8)) (blkOk_by (own := [("other", 12)]) (N := ["roots", "log", "index", "key", "path", "entries", "authors", "made", "line", "gone", "at", "entry", "other"]) (sc := defScope s_good_path) (by decide +kernel)) (fun _ _ _ _ _ => (pg_name (i := 12) sc_good_path.nd rfl (Or.inl rfl))) (fun _ _ _ _ _ => pts_nil) (fun _ _ _ _ _ => (pe_cmpR (op_in_seqK rfl) (pv 12) (pv 9) rfl))) pa_nil))))))))))))), ?_⟩
  rintro ⟨roots_, log_, index_, key_, path_, ⟨⟩⟩ F0 H0 Q KP L
  show Blk K F0 H0 KP _ [iM roots_, iM log_, iM index_, iM key_, iM path_, none, none, none, none, none, none, none, none] (m_good_path roots_ log_ index_ key_ path_)
  unfold m_good_path
  have ht_ := ((et_or (et_test (ev_op (opx_B0 (g := fun i j => decide (j < i))) mild_ok (ev_var (i := 2) (x := index_) rfl) (ev_cb cx_len (fun _ _ h => nomatch h) (ea_cons (ev_var (i := 1) (x := log_) rfl) ea_nil)))) (et_not (et_B (ev_call (f := (fun (p : (List Int) × Unit) => m_u_ascends p.1)) (ea_cons (ev_ofN (en_cat (ev_ofN (en_cat (ev_ofN (en_lst (f := (fun y => ([y.1] : List Int))) (ea_cons (ev_un (g := fun i => -i) (ev_int (i := 1))) ea_nil) (fun _ => rfl) (fun _ => by show 1 ≤ 100000; decide))) (ev_var (i := 4) (x := path_) rfl))) (ev_ofN (en_lst (f := (fun y => ([y.1] : List Int))) (ea_cons (ev_var (i := 2) (x := index_) rfl) ea_nil) (fun _ => rfl) (fun _ => by show 1 ≤ 100000; decide))))) ea_nil))))) : EvT K (W0 E) [iM roots_, iM log_, iM index_, iM key_, iM path_, none, none, none, none, none, none, none, none] _ _)
  refine blk_seq (blk_if2 L trivial (by exact ht_) ?_ ?_)
  · have hr_ := ((ev_bl (b := false)) : EvX K (W0 E) [iM roots_, iM log_, iM index_, iM key_, iM path_, none, none, none, none, none, none, none, none] _ _)
    exact blk_ret L trivial (by exact hr_)
  · refine blk_nil ?_
    try refine Blk.nx ?_
    have hs_ := ((ev_ofN (ev_comp (tst := fun (x11 : Int) => Res.ok true) (el := fun (x11 : Int) => idx log_ x11) (ws := [10]) (ei_list (ev_var (i := 4) (x := path_) rfl)) (fun _ => gx_name) (fun x11 => et_yes) (fun x11 => ((ev_op opx_ixL (fun x y => idx_mild x y) (ev_var (i := 1) (x := log_) rfl) (ev_var (i := 10) (x := x11) rfl)) : EvX K WT [iM roots_, iM log_, iM index_, iM key_, iM path_, none, none, none, none, none, iM x11, none, none] _ _)))) : EvX K (W0 E) [iM roots_, iM log_, iM index_, iM key_, iM path_, none, none, none, none, none, none, none, none] _ _)
    refine blk_seq (blk_set (i := 5) L trivial (by exact hs_) fun entries_ => ?_)
    show Blk _ _ _ _ _ [iM roots_, iM log_, iM index_, iM key_, iM path_, iM entries_, none, none, none, none, none, none, none] _
    try refine Blk.nx ?_
    have ht_ := ((et_not (et_B (ev_cb cx_all (fun _ _ h => nomatch h) (ea_cons (ev_ofN (ev_comp (tst := fun (x13 : (T4 Str Str D D)) => Res.ok true) (el := fun (x13 : (T4 Str Str D D)) => (Res.ok (decide (x13.a ∈ (((fun (x : (T2 Str Str)) => Tu.mk [x.a, x.b]) (T2.mk k_ADMIT k_REPLACE))).xs)))) (ws := [11]) (ei_list (ev_var (i := 5) (x := entries_) rfl)) (fun _ => gx_name) (fun x13 => et_yes) (fun x13 => ((ev_op (opx_inS false) mild_ok (ev_ixTC (i := 0) (f := fun (x : (T4 Str Str D D)) => x.a) (ev_var (i := 11) (x := x13) rfl) (fun x => ⟨_, rfl, rfl⟩)) (ev_as (ev_tup (f := (fun (y : Str × Str × Unit) => T2.mk y.1 y.2.1)) (ea_cons (ev_con T.c_ADMIT) (ea_cons (ev_con T.c_REPLACE) ea_nil)) (fun _ => rfl) (fun _ => by show 2 ≤ 100000; decide)) (fun (x : (T2 Str Str)) => Tu.mk [x.a, x.b]) (fun _ => rfl) rfl)) : EvX K WT [iM roots_, iM log_, iM index_, iM key_, iM path_, iM entries_, none, none, none, none, none, iM x13, none] _ _)))) ea_nil)))) : EvT K (W0 E) [iM roots_, iM log_, iM index_, iM key_, iM path_, iM entries_, none, none, none, none, none, none, none] _ _)
    refine blk_seq (blk_if2 L trivial (by exact ht_) ?_ ?_)
    · have hr_ := ((ev_bl (b := false)) : EvX K (W0 E) [iM roots_, iM log_, iM index_, iM key_, iM path_, iM entries_, none, none, none, none, none, none, none] _ _)
      exact blk_ret L trivial (by exact hr_)
    · refine blk_nil ?_
      try refine Blk.nx ?_
      have hs_ := ((ev_ofN (ev_comp (tst := fun (x20 : (T4 Str Str D D)) => Res.ok true) (el := fun (x20 : (T4 Str Str D D)) => (Res.ok x20.b)) (ws := [11]) (ei_list (ev_var (i := 5) (x := entries_) rfl)) (fun _ => gx_name) (fun x20 => et_yes) (fun x20 => ((ev_ixTC (i := 1) (f := fun (x : (T4 Str Str D D)) => x.b) (ev_var (i := 11) (x := x20) rfl) (fun x => ⟨_, rfl, rfl⟩)) : EvX K WT [iM roots_, iM log_, iM index_, iM key_, iM path_, iM entries_, none, none, none, none, none, iM x20, none] _ _)))) : EvX K (W0 E) [iM roots_, iM log_, iM index_, iM key_, iM path_, iM entries_, none, none, none, none, none, none, none] _ _)
      refine blk_seq (blk_set (i := 6) L trivial (by exact hs_) fun authors_ => ?_)
      show Blk _ _ _ _ _ [iM roots_, iM log_, iM index_, iM key_, iM path_, iM entries_, iM authors_, none, none, none, none, none, none] _
      try refine Blk.nx ?_
      have hs_ := ((ev_ofN (ev_comp (tst := fun (x22 : (T4 Str Str D D)) => Res.ok true) (el := fun (x22 : (T4 Str Str D D)) => ((((Res.ok x22.c)).bind D.asTu).bind fun (t23 : (Tu D)) => idx (t23).xs (0 : Int)).bind D.asStr) (ws := [11]) (ei_list (ev_var (i := 5) (x := entries_) rfl)) (fun _ => gx_name) (fun x22 => et_yes) (fun x22 => ((ev_cast (f := D.asStr) asStr_ok asStr_x (ev_op opx_ixT (fun x y => idx_mild x.xs y) (ev_cast (f := D.asTu) asTu_ok asTu_x (ev_ixTC (i := 2) (f := fun (x : (T4 Str Str D D)) => x.c) (ev_var (i := 11) (x := x22) rfl) (fun x => ⟨_, rfl, rfl⟩))) (ev_int (i := 0)))) : EvX K WT [iM roots_, iM log_, iM index_, iM key_, iM path_, iM entries_, iM authors_, none, none, none, none, iM x22, none] _ _)))) : EvX K (W0 E) [iM roots_, iM log_, iM index_, iM key_, iM path_, iM entries_, iM authors_, none, none, none, none, none, none] _ _)
      refine blk_seq (blk_set (i := 7) L trivial (by exact hs_) fun made_ => ?_)
      show Blk _ _ _ _ _ [iM roots_, iM log_, iM index_, iM key_, iM path_, iM entries_, iM authors_, iM made_, none, none, none, none, none] _
      try refine Blk.nx ?_
      have hs_ := ((ev_if (et_test (ev_op (opx_B0 (g := fun i j => decide (j < i))) mild_ok (ev_cb cx_len (fun _ _ h => nomatch h) (ea_cons (ev_var (i := 4) (x := path_) rfl) ea_nil)) (ev_int (i := 0)))) (ev_ofN (en_cat (ev_ofN (en_slice (lo := none) (hi := (some (1 : Int))) (ev_var (i := 6) (x := authors_) rfl) to_none to_int)) (ev_var (i := 7) (x := made_) rfl))) (ev_ofN (en_lst (f := (fun y => ([y.1] : List Str))) (ea_cons (ev_var (i := 3) (x := key_) rfl) ea_nil) (fun _ => rfl) (fun _ => by show 1 ≤ 100000; decide)))) : EvX K (W0 E) [iM roots_, iM log_, iM index_, iM key_, iM path_, iM entries_, iM authors_, iM made_, none, none, none, none, none] _ _)
      refine blk_seq (blk_set (i := 8) L trivial (by exact hs_) fun line_ => ?_)
      show Blk _ _ _ _ _ [iM roots_, iM log_, iM index_, iM key_, iM path_, iM entries_, iM authors_, iM made_, iM line_, none, none, none, none] _
      try refine Blk.nx ?_
      have ht_ := ((et_or (et_test (ev_op (opx_inS true) mild_ok (ev_op opx_ixL (fun x y => idx_mild x y) (ev_var (i := 8) (x := line_) rfl) (ev_int (i := 0))) (ev_var (i := 0) (x := roots_) rfl))) (et_or (et_test (ev_op opx_neS mild_ok (ev_op opx_ixL (fun x y => idx_mild x y) (ev_var (i := 8) (x := line_) rfl) (ev_un (g := fun i => -i) (ev_int (i := 1)))) (ev_var (i := 3) (x := key_) rfl))) (et_test (ev_op opx_neD mild_need (ev_ofN (en_slice (lo := (some (1 : Int))) (hi := none) (ev_var (i := 6) (x := authors_) rfl) to_int to_none)) (ev_ofN (en_sliceV (ev_var (i := 7) (x := made_) rfl) ept_none (ept_some (ev_un (g := fun i => -i) (ev_int (i := 1)))))))))) : EvT K (W0 E) [iM roots_, iM log_, iM index_, iM key_, iM path_, iM entries_, iM authors_, iM made_, iM line_, none, none, none, none] _ _)
      refine blk_seq (blk_if2 L trivial (by exact ht_) ?_ ?_)
      · have hr_ := ((ev_bl (b := false)) : EvX K (W0 E) [iM roots_, iM log_, iM index_, iM key_, iM path_, iM entries_, iM authors_, iM made_, iM line_, none, none, none, none] _ _)
        exact blk_ret L trivial (by exact hr_)
      · refine blk_nil ?_
        try refine Blk.nx ?_
        have hs_ := ((ev_ofN (ev_comp (tst := fun (x34 : (T4 Str Str D D)) => (Res.ok (x34.a == k_WITHDRAW))) (el := fun (x34 : (T4 Str Str D D)) => ((((Res.ok x34.c)).bind D.asTu).bind fun (t35 : (Tu D)) => idx (t35).xs (0 : Int)).bind D.asStr) (ws := [11]) (ei_list (ev_ofN (en_sliceV (ev_var (i := 1) (x := log_) rfl) ept_none (ept_some (ev_var (i := 2) (x := index_) rfl))))) (fun _ => gx_name) (fun x34 => ((et_test (ev_op opx_eqS mild_ok (ev_ixTC (i := 0) (f := fun (x : (T4 Str Str D D)) => x.a) (ev_var (i := 11) (x := x34) rfl) (fun x => ⟨_, rfl, rfl⟩)) (ev_con T.c_WITHDRAW))) : EvT K WT [iM roots_, iM log_, iM index_, iM key_, iM path_, iM entries_, iM authors_, iM made_, iM line_, none, none, iM x34, none] _ _)) (fun x34 => ((ev_cast (f := D.asStr) asStr_ok asStr_x (ev_op opx_ixT (fun x y => idx_mild x.xs y) (ev_cast (f := D.asTu) asTu_ok asTu_x (ev_ixTC (i := 2) (f := fun (x : (T4 Str Str D D)) => x.c) (ev_var (i := 11) (x := x34) rfl) (fun x => ⟨_, rfl, rfl⟩))) (ev_int (i := 0)))) : EvX K WT [iM roots_, iM log_, iM index_, iM key_, iM path_, iM entries_, iM authors_, iM made_, iM line_, none, none, iM x34, none] _ _)))) : EvX K (W0 E) [iM roots_, iM log_, iM index_, iM key_, iM path_, iM entries_, iM authors_, iM made_, iM line_, none, none, none, none] _ _)
        refine blk_seq (blk_set (i := 9) L trivial (by exact hs_) fun gone_ => ?_)
        show Blk _ _ _ _ _ [iM roots_, iM log_, iM index_, iM key_, iM path_, iM entries_, iM authors_, iM made_, iM line_, iM gone_, none, none, none] _
        try refine Blk.nx ?_
        have hr_ := ((ev_notV (ev_cb cx_any (fun _ _ h => nomatch h) (ea_cons (ev_ofN (ev_comp (tst := fun (x37 : Str) => Res.ok true) (el := fun (x37 : Str) => (Res.ok (decide (x37 ∈ gone_)))) (ws := [12]) (ei_list (ev_var (i := 8) (x := line_) rfl)) (fun _ => gx_name) (fun x37 => et_yes) (fun x37 => ((ev_op (opx_inS false) mild_ok (ev_var (i := 12) (x := x37) rfl) (ev_var (i := 9) (x := gone_) rfl)) : EvX K WT [iM roots_, iM log_, iM index_, iM key_, iM path_, iM entries_, iM authors_, iM made_, iM line_, iM gone_, none, none, iM x37] _ _)))) ea_nil))) : EvX K (W0 E) [iM roots_, iM log_, iM index_, iM key_, iM path_, iM entries_, iM authors_, iM made_, iM line_, iM gone_, none, none, none] _ _)
        exact blk_ret L trivial (by exact hr_)
noncomputable def m_common_beginning_l1 (k1 : Int → Res Int) : List (T2 (T4 Str Str D D) (T4 Str Str D D)) → Int → Res Int
  | [], s => k1 s
  | x43 :: r1, count_ =>   (fun (one_ : (T4 Str Str D D)) (other_ : (T4 Str Str D D)) => (Res.need ((toD one_).okq = true ∧ (toD other_).okq = true) (Res.ok (!pyEq (toD one_) (toD other_)))).bind fun b => cond b   ((Res.ok count_))   (((Res.ok (1 : Int))).bind fun (y44 : Int) => (fun (count_ : Int) => m_common_beginning_l1 k1 r1 count_) (count_ + y44))) x43.a x43.b
noncomputable def m_common_beginning_k3 : Int → Res Int := fun count_ =>   (Res.ok count_)
noncomputable def m_common_beginning (first_ : (List (T4 Str Str D D))) (second_ : (List (T4 Str Str D D))) : Res Int :=
  ((Res.ok (0 : Int))).bind fun (count_ : Int) =>   (Res.ok (List.zipWith T2.mk first_ second_)).bind fun (xs46 : List (T2 (T4 Str Str D D) (T4 Str Str D D))) => m_common_beginning_l1 (m_common_beginning_k3) xs46 count_
theorem ok_common_beginning {P : Program} {w : World} {K : PySem.W.Frag} {mg : Str → Option Value} {base : Heap} (T : Facts P w K mg) {fd : FuncData} (F : FnP K "common_beginning" "common_beginning" s_common_beginning (He.ga K "common_beginning") fd) :
    FnOk P w K mg base (L2.CX P w) 1 (He.ga K "common_beginning") fd ["first", "second"] (spM K (fun (p : (List (T4 Str Str D D)) × (List (T4 Str Str D D)) × Unit) => m_common_beginning p.1 p.2.1)) := by
  refine fn_ok F sc_common_beginning (fun y => rfl) (fun cdv A outer s H E hr => ?_)
  refine ⟨_, (pss_cons (ps_set (i := 2) sc_common_beginning.nd rfl (Or.inl rfl) pe_int) (pss_cons (ps_for (passes_of rfl) rfl (pi_zipK rfl rfl T.n_zip (pa_cons (pv 0) (pa_cons (pv 1) pa_nil))) (pg_tup rfl (pgs_cons (pg_name (i := 3) sc_common_beginning.nd rfl (Or.inl rfl)) (pgs_cons (pg_name (i := 4) sc_common_beginning.nd rfl (Or.inl rfl)) pgs_nil))) (pss_cons (ps_if (pt_cmpR (op_neD (Room.units hr)) (pv 3) (pv 4) (nomark _)) (pss_one (ps_ret (pv 2))) pss_nil) (pss_one (ps_aug (i := 2) sc_common_beginning.nd rfl (Or.inl rfl) pe_int ip_add)))) (pss_one (ps_ret (pv 2))))), ?_⟩
  rintro ⟨first_, second_, ⟨⟩⟩ F0 H0 Q KP L
  show Blk K F0 H0 KP _ [iM first_, iM second_, none, none, none] (m_common_beginning first_ second_)
  unfold m_common_beginning
  have hs_ := ((ev_int (i := 0)) : EvX K (W0 E) [iM first_, iM second_, none, none, none] _ _)
  refine blk_seq (blk_set (i := 2) L trivial (by exact hs_) fun count_ => ?_)
  show Blk _ _ _ _ _ [iM first_, iM second_, iM count_, none, none] _
  try refine Blk.nx ?_
  have hi_ := ((ei_zip (ea_cons (ev_var (i := 0) (x := first_) rfl) (ea_cons (ev_var (i := 1) (x := second_) rfl) ea_nil))) : EvI K (W0 E) [iM first_, iM second_, iM count_, none, none] _ _)
  refine blk_seq (blk_for (S := Int) (m_common_beginning_l1 (m_common_beginning_k3)) (m_common_beginning_k3) (fun count_ => [iM first_, iM second_, iM count_, none, none]) count_ L trivial (by exact hi_) (fun _ => (gx_tup (n := 2) (gxs_cons gx_name (gxs_cons gx_name gxs_nil)) rfl)) (.same (.same (.same (.same (.same .nil))))) (fun _ => rfl) ?_ ?_)
  · intro F1 L1 hB1 x43 r1 s_ N_ hN1
    revert s_; intro count_
    show Blk _ _ _ _ _ [iM first_, iM second_, iM count_, iM x43.a, iM x43.b] (m_common_beginning_l1 (m_common_beginning_k3) (x43 :: r1) count_)
    rw [m_common_beginning_l1]
    show Blk _ _ _ _ _ _ ((fun (one_ : (T4 Str Str D D)) (other_ : (T4 Str Str D D)) => _) x43.a x43.b)
    generalize x43.a = one_
    generalize x43.b = other_
    show Blk _ _ _ _ _ [iM first_, iM second_, iM count_, iM one_, iM other_] _
    have ht_ := ((et_test (ev_op opx_neD mild_need (ev_var (i := 3) (x := one_) rfl) (ev_var (i := 4) (x := other_) rfl))) : EvT K (W0 E) [iM first_, iM second_, iM count_, iM one_, iM other_] _ _)
    refine blk_seq (blk_if2 L1 trivial (by exact ht_) ?_ ?_)
    · have hr_ := ((ev_var (i := 2) (x := count_) rfl) : EvX K (W0 E) [iM first_, iM second_, iM count_, iM one_, iM other_] _ _)
      exact blk_ret L1 trivial (by exact hr_)
    · refine blk_nil ?_
      try refine Blk.nx ?_
      have hs_ := ((ev_int (i := 1)) : EvX K (W0 E) [iM first_, iM second_, iM count_, iM one_, iM other_] _ _)
      refine blk_aug (i := 2) (x := count_) (g := fun i j => i + j) L1 trivial rfl (by exact hs_) fun y45 => ?_
      show Blk _ _ _ _ _ [iM first_, iM second_, iM ((count_ + y45)), iM one_, iM other_] ((fun (count_ : Int) => _) (count_ + y45))
      generalize count_ + y45 = count_
      show Blk _ _ _ _ _ [iM first_, iM second_, iM count_, iM one_, iM other_] _
      try refine Blk.nx ?_
      exact (hN1 count_).weak (.same (.same (.same (.drop (.drop .nil)))))
  · intro count_
    show Blk _ _ _ _ _ [iM first_, iM second_, iM count_, none, none] ((m_common_beginning_k3) count_)
    unfold m_common_beginning_k3
    try refine Blk.nx ?_
    have hr_ := ((ev_var (i := 2) (x := count_) rfl) : EvX K (W0 E) [iM first_, iM second_, iM count_, none, none] _ _)
    exact blk_ret L trivial (by exact hr_)
noncomputable def m_u_law_cell (script_ : (Ro Int)) (k_ : Int) : Res Int :=
  ((Res.ok (decide (k_ < ((script_).xs.length : Int))))).bind fun b => cond b   (((idx (script_).xs k_).bind fun a47 => Res.ok (a47, ())).bind fun p49 => Res.ok p49.1)   ((Res.ok (0 : Int)))
theorem ok_u_law_cell {P : Program} {w : World} {K : PySem.W.Frag} {mg : Str → Option Value} {base : Heap} (T : Facts P w K mg) {fd : FuncData} (F : FnP K "_law_cell" "_law_cell" s_u_law_cell (He.ga K "_law_cell") fd) :
    FnOk P w K mg base (L2.CX P w) 1 (He.ga K "_law_cell") fd ["script", "k"] (spM K (fun (p : (Ro Int) × Int × Unit) => m_u_law_cell p.1 p.2.1)) := by
  refine fn_ok F sc_u_law_cell (fun y => rfl) (fun cdv A outer s H E hr => ?_)
  refine ⟨_, (pss_cons (ps_if (pt_cmpR op_lt (pv 1) (pe_callB (cr_len rfl) (by rfl) T.n_len (by decide +kernel) (pa_cons (pv 0) pa_nil)) (nomark _)) (pss_one (ps_ret (pe_callTy call_int1 (by rfl) T.n_int (by decide +kernel) (pa_cons (pe_ix (cr_ixL rfl) (pv 0) (pv 1) (fun _ _ => rfl)) pa_nil)))) pss_nil) (pss_one (ps_ret pe_int))), ?_⟩
  rintro ⟨script_, k_, ⟨⟩⟩ F0 H0 Q KP L
  show Blk K F0 H0 KP _ [iM script_, iM k_] (m_u_law_cell script_ k_)
  unfold m_u_law_cell
  have ht_ := ((et_test (ev_op (opx_B0 (g := fun i j => decide (i < j))) mild_ok (ev_var (i := 1) (x := k_) rfl) (ev_cb cx_lenRo (fun _ _ h => nomatch h) (ea_cons (ev_var (i := 0) (x := script_) rfl) ea_nil)))) : EvT K (W0 E) [iM script_, iM k_] _ _)
  refine blk_seq (blk_if2 L trivial (by exact ht_) ?_ ?_)
  · have hr_ := ((ev_cb cx_int (fun _ _ h => nomatch h) (ea_cons (ev_op opx_ixR (fun x y => idx_mild x.xs y) (ev_var (i := 0) (x := script_) rfl) (ev_var (i := 1) (x := k_) rfl)) ea_nil)) : EvX K (W0 E) [iM script_, iM k_] _ _)
    exact blk_ret L trivial (by exact hr_)
  · refine blk_nil ?_
    try refine Blk.nx ?_
    have hr_ := ((ev_int (i := 0)) : EvX K (W0 E) [iM script_, iM k_] _ _)
    exact blk_ret L trivial (by exact hr_)
noncomputable def m_u_law_key (number_ : Int) : Res Str :=
  (Res.need ((Int.natAbs (number_ % (10 : Int))).log2 < 1920) (Res.ok (toString (number_ % (10 : Int)) : Str))).bind fun (t50 : Str) => Res.need (("k" : Str).length + t50.length ≤ 16777216) (Res.ok (("k" : Str) ++ t50))
theorem ok_u_law_key {P : Program} {w : World} {K : PySem.W.Frag} {mg : Str → Option Value} {base : Heap} (T : Facts P w K mg) {fd : FuncData} (F : FnP K "_law_key" "_law_key" s_u_law_key (He.ga K "_law_key") fd) :
    FnOk P w K mg base (L2.CX P w) 1 (He.ga K "_law_key") fd ["number"] (spM K (fun (p : Int × Unit) => m_u_law_key p.1)) := by
  refine fn_ok F sc_u_law_key (fun y => rfl) (fun cdv A outer s H E hr => ?_)
  refine ⟨_, (pss_one (ps_ret (pe_op op_add_str pe_str (pe_callTy call_str_int (by rfl) T.n_str (by decide +kernel) (pa_cons (pe_op op_mod (pv 0) pe_int) pa_nil))))), ?_⟩
  rintro ⟨number_, ⟨⟩⟩ F0 H0 Q KP L
  show Blk K F0 H0 KP _ [iM number_] (m_u_law_key number_)
  unfold m_u_law_key
  have hr_ := ((ev_op opx_addT mild_need (ev_str (x := "k")) (ev_cb cx_strI (fun _ _ h => need_mild h) (ea_cons (ev_opI (C := (fun _ j => 0 < j)) (g := fun i j => i % j) (fun x y _ h => by cases h; (show (0 : Int) < _; decide)) (ev_var (i := 0) (x := number_) rfl) (ev_int (i := 10))) ea_nil))) : EvX K (W0 E) [iM number_] _ _)
  exact blk_ret L trivial (by exact hr_)
noncomputable def m_u_law_entry (cell_ : Int) : Res (T4 Str Str D D) :=
  (m_u_law_key (cell_ / (8 : Int))).bind fun (author_ : Str) =>   (m_u_law_key (cell_ / (80 : Int))).bind fun (key_ : Str) =>   ((Res.ok (cell_ % (8 : Int)))).bind fun (how_ : Int) =>   ((Res.ok (decide (how_ < (3 : Int))))).bind fun b => cond b   ((Res.ok (T4.mk ("admit" : Str) author_ (toD (T2.mk key_ ("as" : Str))) (toD (T1.mk (1 : Int))))))   (((Res.ok (decide (how_ < (5 : Int))))).bind fun b => cond b   ((Res.ok (T4.mk ("replace" : Str) author_ (toD (T2.mk key_ (T1.mk (2 : Int)))) (toD (T1.mk (1 : Int))))))   (((Res.ok (decide (how_ = (5 : Int))))).bind fun b => cond b   ((Res.ok (T4.mk ("withdraw" : Str) author_ (toD (T1.mk key_)) (toD (T1.mk (1 : Int))))))   (((Res.ok (decide (how_ = (6 : Int))))).bind fun b => cond b   ((Res.ok (T4.mk ("state" : Str) author_ (toD (T1.mk (T1.mk (3 : Int)))) (toD (T1.mk (1 : Int))))))   (((Res.ok ([(T4.mk ("admit" : Str) author_ (toD (T2.mk key_ ("" : Str))) (toD (T1.mk (1 : Int)))), (T4.mk ("state" : Str) author_ (toD (T1.mk (T0.mk ))) (toD (T0.mk ))), (T4.mk ("replace" : Str) author_ (toD (T2.mk key_ (T0.mk ))) (toD (T0.mk )))] : List (T4 Str Str D D)))).bind fun (rows_ : (List (T4 Str Str D D))) =>   (Res.need (rows_.length + ([(T4.mk ("withdraw" : Str) author_ (toD (T1.mk key_)) (toD (T0.mk )))] : List (T4 Str Str D D)).length ≤ 16777216) (Res.ok (rows_ ++ ([(T4.mk ("withdraw" : Str) author_ (toD (T1.mk key_)) (toD (T0.mk )))] : List (T4 Str Str D D))))).bind fun (t51 : (List (T4 Str Str D D))) => idx t51 ((cell_ / (800 : Int)) % (4 : Int))))))
theorem ok_u_law_entry {P : Program} {w : World} {K : PySem.W.Frag} {mg : Str → Option Value} {base : Heap} (T : Facts P w K mg) {fd : FuncData} (F : FnP K "_law_entry" "_law_entry" s_u_law_entry (He.ga K "_law_entry") fd) :
    FnOk P w K mg base (L2.CX P w) 2 (He.ga K "_law_entry") fd ["cell"] (spM K (fun (p : Int × Unit) => m_u_law_entry p.1)) := by
  obtain ⟨fd_u_law_key, F_u_law_key⟩ := T.d_u_law_key
  have G_u_law_key := ok_u_law_key (P := P) (w := w) (base := base) T F_u_law_key
  have b_u_law_key : Binds K fd_u_law_key ["number"] [] := F_u_law_key.bindsN fun _ _ _ _ _ _ us hl => match us, hl with | [_], _ => rfl
  refine fn_ok F sc_u_law_entry (fun y => rfl) (fun cdv A outer s H E hr => ?_)
  refine ⟨_, (pss_cons (ps_set (i := 1) sc_u_law_entry.nd rfl (Or.inl rfl) (pe_callS G_u_law_key (hr.mono (by decide)) rfl T.g_u_law_key F_u_law_key.kp b_u_law_key (fun σ => passAt (takes_of rfl rfl rfl rfl) σ) (pa_cons (pe_op op_fdiv (pv 0) pe_int) pa_nil))) (pss_cons (ps_set (i := 2) sc_u_law_entry.nd rfl (Or.inl rfl) (pe_callS G_u_law_key (hr.mono (by decide)) rfl T.g_u_law_key F_u_law_key.kp b_u_law_key (fun σ => passAt (takes_of rfl rfl rfl rfl) σ) (pa_cons (pe_op op_fdiv (pv 0) pe_int) pa_nil))) (pss_cons (ps_set (i := 3) sc_u_law_entry.nd rfl (Or.inl rfl) (pe_op op_mod (pv 0) pe_int)) (pss_cons (ps_if (pt_cmpR op_lt (pv 3) pe_int (nomark _)) (pss_one (ps_ret (pe_tup (pa_cons pe_str (pa_cons (pv 1) (pa_cons (pe_tup (pa_cons (pv 2) (pa_cons pe_str pa_nil))) (pa_cons (pe_tup (pa_cons pe_int pa_nil)) pa_nil))))))) pss_nil) (pss_cons (ps_if (pt_cmpR op_lt (pv 3) pe_int (nomark _)) (pss_one (ps_ret (pe_tup (pa_cons pe_str (pa_cons (pv 1) (pa_cons (pe_tup (pa_cons (pv 2) (pa_cons (pe_tup (pa_cons pe_int pa_nil)) pa_nil))) (pa_cons (pe_tup (pa_cons pe_int pa_nil)) pa_nil))))))) pss_nil) (pss_cons (ps_if (pt_cmpR op_eq (pv 3) pe_int (nomark _)) (pss_one (ps_ret (pe_tup (pa_cons pe_str (pa_cons (pv 1) (pa_cons (pe_tup (pa_cons (pv 2) pa_nil)) (pa_cons (pe_tup (pa_cons pe_int pa_nil)) pa_nil))))))) pss_nil) (pss_cons (ps_if (pt_cmpR op_eq (pv 3) pe_int (nomark _)) (pss_one (ps_ret (pe_tup (pa_cons pe_str (pa_cons (pv 1) (pa_cons (pe_tup (pa_cons (pe_tup (pa_cons pe_int pa_nil)) pa_nil)) (pa_cons (pe_tup (pa_cons pe_int pa_nil)) pa_nil))))))) pss_nil) (pss_cons (ps_set (i := 4) sc_u_law_entry.nd rfl (Or.inl rfl) (pe_lst (pa_cons (pe_tup (pa_cons pe_str (pa_cons (pv 1) (pa_cons (pe_tup (pa_cons (pv 2) (pa_cons pe_str pa_nil))) (pa_cons (pe_tup (pa_cons pe_int pa_nil)) pa_nil))))) (pa_cons (pe_tup (pa_cons pe_str (pa_cons (pv 1) (pa_cons (pe_tup (pa_cons (pe_tup pa_nil) pa_nil)) (pa_cons (pe_tup pa_nil) pa_nil))))) (pa_cons (pe_tup (pa_cons pe_str (pa_cons (pv 1) (pa_cons (pe_tup (pa_cons (pv 2) (pa_cons (pe_tup pa_nil) pa_nil))) (pa_cons (pe_tup pa_nil) pa_nil))))) pa_nil))))) (pss_one (ps_ret (pe_ix (cr_ixL rfl) (pe_op op_cat (pv 4) (pe_lst (pa_cons (pe_tup (pa_cons pe_str (pa_cons (pv 1) (pa_cons (pe_tup (pa_cons (pv 2) pa_nil)) (pa_cons (pe_tup pa_nil) pa_nil))))) pa_nil))) (pe_op op_mod (pe_op op_fdiv (pv 0) pe_int) pe_int) (fun _ _ => rfl)))))))))))), ?_⟩
  rintro ⟨cell_, ⟨⟩⟩ F0 H0 Q KP L
  show Blk K F0 H0 KP _ [iM cell_, none, none, none, none] (m_u_law_entry cell_)
  unfold m_u_law_entry
  have hs_ := ((ev_call (f := (fun (p : Int × Unit) => m_u_law_key p.1)) (ea_cons (ev_opI (C := CDiv) (g := fun i j => i / j) (fun x y _ h => by cases h; exact ⟨by decide, by decide⟩) (ev_var (i := 0) (x := cell_) rfl) (ev_int (i := 8))) ea_nil)) : EvX K (W0 E) [iM cell_, none, none, none, none] _ _)
  refine blk_seq (blk_set (i := 1) L trivial (by exact hs_) fun author_ => ?_)
  show Blk _ _ _ _ _ [iM cell_, iM author_, none, none, none] _
  try refine Blk.nx ?_
  have hs_ := ((ev_call (f := (fun (p : Int × Unit) => m_u_law_key p.1)) (ea_cons (ev_opI (C := CDiv) (g := fun i j => i / j) (fun x y _ h => by cases h; exact ⟨by decide, by decide⟩) (ev_var (i := 0) (x := cell_) rfl) (ev_int (i := 80))) ea_nil)) : EvX K (W0 E) [iM cell_, iM author_, none, none, none] _ _)
  refine blk_seq (blk_set (i := 2) L trivial (by exact hs_) fun key_ => ?_)
  show Blk _ _ _ _ _ [iM cell_, iM author_, iM key_, none, none] _
  try refine Blk.nx ?_
  have hs_ := ((ev_opI (C := (fun _ j => 0 < j)) (g := fun i j => i % j) (fun x y _ h => by cases h; (show (0 : Int) < _; decide)) (ev_var (i := 0) (x := cell_) rfl) (ev_int (i := 8))) : EvX K (W0 E) [iM cell_, iM author_, iM key_, none, none] _ _)
  refine blk_seq (blk_set (i := 3) L trivial (by exact hs_) fun how_ => ?_)
  show Blk _ _ _ _ _ [iM cell_, iM author_, iM key_, iM how_, none] _
  try refine Blk.nx ?_
  have ht_ := ((et_test (ev_op (opx_B0 (g := fun i j => decide (i < j))) mild_ok (ev_var (i := 3) (x := how_) rfl) (ev_int (i := 3)))) : EvT K (W0 E) [iM cell_, iM author_, iM key_, iM how_, none] _ _)
  refine blk_seq (blk_if2 L trivial (by exact ht_) ?_ ?_)
  · have hr_ := ((ev_tup (f := (fun (y : Str × Str × D × D × Unit) => T4.mk y.1 y.2.1 y.2.2.1 y.2.2.2.1)) (ea_cons (ev_str (x := "admit")) (ea_cons (ev_var (i := 1) (x := author_) rfl) (ea_cons (ev_as (ev_tup (f := (fun (y : Str × Str × Unit) => T2.mk y.1 y.2.1)) (ea_cons (ev_var (i := 2) (x := key_) rfl) (ea_cons (ev_str (x := "as")) ea_nil)) (fun _ => rfl) (fun _ => by show 2 ≤ 100000; decide)) toD (fun _ => rfl) rfl) (ea_cons (ev_as (ev_tup (f := (fun (y : Int × Unit) => T1.mk y.1)) (ea_cons (ev_int (i := 1)) ea_nil) (fun _ => rfl) (fun _ => by show 1 ≤ 100000; decide)) toD (fun _ => rfl) rfl) ea_nil)))) (fun _ => rfl) (fun _ => by show 4 ≤ 100000; decide)) : EvX K (W0 E) [iM cell_, iM author_, iM key_, iM how_, none] _ _)
    exact blk_ret L trivial (by exact hr_)
  · refine blk_nil ?_
    try refine Blk.nx ?_
    have ht_ := ((et_test (ev_op (opx_B0 (g := fun i j => decide (i < j))) mild_ok (ev_var (i := 3) (x := how_) rfl) (ev_int (i := 5)))) : EvT K (W0 E) [iM cell_, iM author_, iM key_, iM how_, none] _ _)
    refine blk_seq (blk_if2 L trivial (by exact ht_) ?_ ?_)
    · have hr_ := ((ev_tup (f := (fun (y : Str × Str × D × D × Unit) => T4.mk y.1 y.2.1 y.2.2.1 y.2.2.2.1)) (ea_cons (ev_str (x := "replace")) (ea_cons (ev_var (i := 1) (x := author_) rfl) (ea_cons (ev_as (ev_tup (f := (fun (y : Str × (T1 Int) × Unit) => T2.mk y.1 y.2.1)) (ea_cons (ev_var (i := 2) (x := key_) rfl) (ea_cons (ev_tup (f := (fun (y : Int × Unit) => T1.mk y.1)) (ea_cons (ev_int (i := 2)) ea_nil) (fun _ => rfl) (fun _ => by show 1 ≤ 100000; decide)) ea_nil)) (fun _ => rfl) (fun _ => by show 2 ≤ 100000; decide)) toD (fun _ => rfl) rfl) (ea_cons (ev_as (ev_tup (f := (fun (y : Int × Unit) => T1.mk y.1)) (ea_cons (ev_int (i := 1)) ea_nil) (fun _ => rfl) (fun _ => by show 1 ≤ 100000; decide)) toD (fun _ => rfl) rfl) ea_nil)))) (fun _ => rfl) (fun _ => by show 4 ≤ 100000; decide)) : EvX K (W0 E) [iM cell_, iM author_, iM key_, iM how_, none] _ _)
      exact blk_ret L trivial (by exact hr_)
    · refine blk_nil ?_
      try refine Blk.nx ?_
      have ht_ := ((et_test (ev_op opx_eqI mild_ok (ev_var (i := 3) (x := how_) rfl) (ev_int (i := 5)))) : EvT K (W0 E) [iM cell_, iM author_, iM key_, iM how_, none] _ _)
      refine blk_seq (blk_if2 L trivial (by exact ht_) ?_ ?_)
      · have hr_ := ((ev_tup (f := (fun (y : Str × Str × D × D × Unit) => T4.mk y.1 y.2.1 y.2.2.1 y.2.2.2.1)) (ea_cons (ev_str (x := "withdraw")) (ea_cons (ev_var (i := 1) (x := author_) rfl) (ea_cons (ev_as (ev_tup (f := (fun (y : Str × Unit) => T1.mk y.1)) (ea_cons (ev_var (i := 2) (x := key_) rfl) ea_nil) (fun _ => rfl) (fun _ => by show 1 ≤ 100000; decide)) toD (fun _ => rfl) rfl) (ea_cons (ev_as (ev_tup (f := (fun (y : Int × Unit) => T1.mk y.1)) (ea_cons (ev_int (i := 1)) ea_nil) (fun _ => rfl) (fun _ => by show 1 ≤ 100000; decide)) toD (fun _ => rfl) rfl) ea_nil)))) (fun _ => rfl) (fun _ => by show 4 ≤ 100000; decide)) : EvX K (W0 E) [iM cell_, iM author_, iM key_, iM how_, none] _ _)
        exact blk_ret L trivial (by exact hr_)
      · refine blk_nil ?_
        try refine Blk.nx ?_
        have ht_ := ((et_test (ev_op opx_eqI mild_ok (ev_var (i := 3) (x := how_) rfl) (ev_int (i := 6)))) : EvT K (W0 E) [iM cell_, iM author_, iM key_, iM how_, none] _ _)
        refine blk_seq (blk_if2 L trivial (by exact ht_) ?_ ?_)
        · have hr_ := ((ev_tup (f := (fun (y : Str × Str × D × D × Unit) => T4.mk y.1 y.2.1 y.2.2.1 y.2.2.2.1)) (ea_cons (ev_str (x := "state")) (ea_cons (ev_var (i := 1) (x := author_) rfl) (ea_cons (ev_as (ev_tup (f := (fun (y : (T1 Int) × Unit) => T1.mk y.1)) (ea_cons (ev_tup (f := (fun (y : Int × Unit) => T1.mk y.1)) (ea_cons (ev_int (i := 3)) ea_nil) (fun _ => rfl) (fun _ => by show 1 ≤ 100000; decide)) ea_nil) (fun _ => rfl) (fun _ => by show 1 ≤ 100000; decide)) toD (fun _ => rfl) rfl) (ea_cons (ev_as (ev_tup (f := (fun (y : Int × Unit) => T1.mk y.1)) (ea_cons (ev_int (i := 1)) ea_nil) (fun _ => rfl) (fun _ => by show 1 ≤ 100000; decide)) toD (fun _ => rfl) rfl) ea_nil)))) (fun _ => rfl) (fun _ => by show 4 ≤ 100000; decide)) : EvX K (W0 E) [iM cell_, iM author_, iM key_, iM how_, none] _ _)
          exact blk_ret L trivial (by exact hr_)
        · refine blk_nil ?_
          try refine Blk.nx ?_
          have hs_ := ((ev_ofN (en_lst (f := (fun y => ([y.1, y.2.1, y.2.2.1] : List (T4 Str Str D D)))) (ea_cons (ev_tup (f := (fun (y : Str × Str × D × D × Unit) => T4.mk y.1 y.2.1 y.2.2.1 y.2.2.2.1)) (ea_cons (ev_str (x := "admit")) (ea_cons (ev_var (i := 1) (x := author_) rfl) (ea_cons (ev_as (ev_tup (f := (fun (y : Str × Str × Unit) => T2.mk y.1 y.2.1)) (ea_cons (ev_var (i := 2) (x := key_) rfl) (ea_cons (ev_str (x := "")) ea_nil)) (fun _ => rfl) (fun _ => by show 2 ≤ 100000; decide)) toD (fun _ => rfl) rfl) (ea_cons (ev_as (ev_tup (f := (fun (y : Int × Unit) => T1.mk y.1)) (ea_cons (ev_int (i := 1)) ea_nil) (fun _ => rfl) (fun _ => by show 1 ≤ 100000; decide)) toD (fun _ => rfl) rfl) ea_nil)))) (fun _ => rfl) (fun _ => by show 4 ≤ 100000; decide)) (ea_cons (ev_tup (f := (fun (y : Str × Str × D × D × Unit) => T4.mk y.1 y.2.1 y.2.2.1 y.2.2.2.1)) (ea_cons (ev_str (x := "state")) (ea_cons (ev_var (i := 1) (x := author_) rfl) (ea_cons (ev_as (ev_tup (f := (fun (y : (T0 ) × Unit) => T1.mk y.1)) (ea_cons (ev_tup (f := (fun (y : Unit) => T0.mk )) ea_nil (fun _ => rfl) (fun _ => by show 0 ≤ 100000; decide)) ea_nil) (fun _ => rfl) (fun _ => by show 1 ≤ 100000; decide)) toD (fun _ => rfl) rfl) (ea_cons (ev_as (ev_tup (f := (fun (y : Unit) => T0.mk )) ea_nil (fun _ => rfl) (fun _ => by show 0 ≤ 100000; decide)) toD (fun _ => rfl) rfl) ea_nil)))) (fun _ => rfl) (fun _ => by show 4 ≤ 100000; decide)) (ea_cons (ev_tup (f := (fun (y : Str × Str × D × D × Unit) => T4.mk y.1 y.2.1 y.2.2.1 y.2.2.2.1)) (ea_cons (ev_str (x := "replace")) (ea_cons (ev_var (i := 1) (x := author_) rfl) (ea_cons (ev_as (ev_tup (f := (fun (y : Str × (T0 ) × Unit) => T2.mk y.1 y.2.1)) (ea_cons (ev_var (i := 2) (x := key_) rfl) (ea_cons (ev_tup (f := (fun (y : Unit) => T0.mk )) ea_nil (fun _ => rfl) (fun _ => by show 0 ≤ 100000; decide)) ea_nil)) (fun _ => rfl) (fun _ => by show 2 ≤ 100000; decide)) toD (fun _ => rfl) rfl) (ea_cons (ev_as (ev_tup (f := (fun (y : Unit) => T0.mk )) ea_nil (fun _ => rfl) (fun _ => by show 0 ≤ 100000; decide)) toD (fun _ => rfl) rfl) ea_nil)))) (fun _ => rfl) (fun _ => by show 4 ≤ 100000; decide)) ea_nil))) (fun _ => rfl) (fun _ => by show 3 ≤ 100000; decide))) : EvX K (W0 E) [iM cell_, iM author_, iM key_, iM how_, none] _ _)
          refine blk_seq (blk_set (i := 4) L trivial (by exact hs_) fun rows_ => ?_)
          show Blk _ _ _ _ _ [iM cell_, iM author_, iM key_, iM how_, iM rows_] _
          try refine Blk.nx ?_
          have hr_ := ((ev_op opx_ixL (fun x y => idx_mild x y) (ev_ofN (en_cat (ev_var (i := 4) (x := rows_) rfl) (ev_ofN (en_lst (f := (fun y => ([y.1] : List (T4 Str Str D D)))) (ea_cons (ev_tup (f := (fun (y : Str × Str × D × D × Unit) => T4.mk y.1 y.2.1 y.2.2.1 y.2.2.2.1)) (ea_cons (ev_str (x := "withdraw")) (ea_cons (ev_var (i := 1) (x := author_) rfl) (ea_cons (ev_as (ev_tup (f := (fun (y : Str × Unit) => T1.mk y.1)) (ea_cons (ev_var (i := 2) (x := key_) rfl) ea_nil) (fun _ => rfl) (fun _ => by show 1 ≤ 100000; decide)) toD (fun _ => rfl) rfl) (ea_cons (ev_as (ev_tup (f := (fun (y : Unit) => T0.mk )) ea_nil (fun _ => rfl) (fun _ => by show 0 ≤ 100000; decide)) toD (fun _ => rfl) rfl) ea_nil)))) (fun _ => rfl) (fun _ => by show 4 ≤ 100000; decide)) ea_nil) (fun _ => rfl) (fun _ => by show 1 ≤ 100000; decide))))) (ev_opI (C := (fun _ j => 0 < j)) (g := fun i j => i % j) (fun x y _ h => by cases h; (show (0 : Int) < _; decide)) (ev_opI (C := CDiv) (g := fun i j => i / j) (fun x y _ h => by cases h; exact ⟨by decide, by decide⟩) (ev_var (i := 0) (x := cell_) rfl) (ev_int (i := 800))) (ev_int (i := 4)))) : EvX K (W0 E) [iM cell_, iM author_, iM key_, iM how_, iM rows_] _ _)
          exact blk_ret L trivial (by exact hr_)
noncomputable def m_u_law_makes (entry_ : (T4 Str Str D D)) : Res (Option Str) :=
  ((Res.need ((toD entry_).plain = true) (Res.ok (isI "tuple" (toD entry_)))).bind fun b55 => cond b55 (cond (decide ((4 : Int) = (4 : Int))) (cond (decide (entry_.a ∈ (((fun (x : (T2 Str Str)) => Tu.mk [x.a, x.b]) (T2.mk ("admit" : Str) ("replace" : Str)))).xs)) ((((Res.ok entry_.c)).bind fun (t53 : D) => D.lenR t53).bind fun (t54 : Int) => Res.ok (decide (t54 = (2 : Int)))) (Res.ok false)) (Res.ok false)) (Res.ok false)).bind fun b => cond b   ((((((Res.ok entry_.c)).bind D.asTu).bind fun (t56 : (Tu D)) => idx (t56).xs (0 : Int)).bind D.asStr).bind fun (x : Str) => Res.ok (some x))   ((Res.ok (none : (Option Str))))
theorem ok_u_law_makes {P : Program} {w : World} {K : PySem.W.Frag} {mg : Str → Option Value} {base : Heap} (T : Facts P w K mg) {fd : FuncData} (F : FnP K "_law_makes" "_law_makes" s_u_law_makes (He.ga K "_law_makes") fd) :
    FnOk P w K mg base (L2.CX P w) 1 (He.ga K "_law_makes") fd ["entry"] (spM K (fun (p : (T4 Str Str D D) × Unit) => m_u_law_makes p.1)) := by
  refine fn_ok F sc_u_law_makes (fun y => rfl) (fun cdv A outer s H E hr => ?_)
  refine ⟨_, (pss_cons (ps_if (PW.pt (pw_and (pt_val (pe_callB call_isi (by rfl) T.n_isinstance (by decide +kernel) (pa_cons (pv 0) (pa_cons (pe_bltn (v := .ty "tuple") (by rfl) T.n_tuple (by decide +kernel) rfl) pa_nil)))) (pw_and (pt_cmpR op_eq (pe_callB (cr_len rfl) (by rfl) T.n_len (by decide +kernel) (pa_cons (pv 0) pa_nil)) pe_int (nomark _)) (pw_and (pt_cmpR op_in_seq (pe_ix (cr_ixT rfl) (pv 0) pe_int (fun _ _ => rfl)) (pe_tup (pa_cons pe_str (pa_cons pe_str pa_nil))) rfl) (pw_and1 (pt_cmpR op_eq (pe_callB (cr_len rfl) (by rfl) T.n_len (by decide +kernel) (pa_cons (pe_ix (cr_ixT rfl) (pv 0) pe_int (fun _ _ => rfl)) pa_nil)) pe_int (nomark _))))))) (pss_one (ps_ret (pe_ix (cr_ixT rfl) (pe_ix (cr_ixT rfl) (pv 0) pe_int (fun _ _ => rfl)) pe_int (fun _ _ => rfl)))) pss_nil) (pss_one (ps_ret pe_non))), ?_⟩
  rintro ⟨entry_, ⟨⟩⟩ F0 H0 Q KP L
  show Blk K F0 H0 KP _ [iM entry_] (m_u_law_makes entry_)
  unfold m_u_law_makes
  have ht_ := ((et_and (et_B (ev_isi isi_tuple (ev_var (i := 0) (x := entry_) rfl))) (et_and (et_test (ev_op opx_eqI mild_ok (ev_cb (cx_lenT (n := 4) fun _ => ⟨_, rfl, rfl⟩) (fun _ _ h => nomatch h) (ea_cons (ev_var (i := 0) (x := entry_) rfl) ea_nil)) (ev_int (i := 4)))) (et_and (et_test (ev_op (opx_inS false) mild_ok (ev_ixTC (i := 0) (f := fun (x : (T4 Str Str D D)) => x.a) (ev_var (i := 0) (x := entry_) rfl) (fun x => ⟨_, rfl, rfl⟩)) (ev_as (ev_tup (f := (fun (y : Str × Str × Unit) => T2.mk y.1 y.2.1)) (ea_cons (ev_str (x := "admit")) (ea_cons (ev_str (x := "replace")) ea_nil)) (fun _ => rfl) (fun _ => by show 2 ≤ 100000; decide)) (fun (x : (T2 Str Str)) => Tu.mk [x.a, x.b]) (fun _ => rfl) rfl))) (et_test (ev_op opx_eqI mild_ok (ev_lenD (ev_ixTC (i := 2) (f := fun (x : (T4 Str Str D D)) => x.c) (ev_var (i := 0) (x := entry_) rfl) (fun x => ⟨_, rfl, rfl⟩))) (ev_int (i := 2))))))) : EvT K (W0 E) [iM entry_] _ _)
  refine blk_seq (blk_if2 L trivial (by exact ht_) ?_ ?_)
  · have hr_ := ((ev_as (ev_cast (f := D.asStr) asStr_ok asStr_x (ev_op opx_ixT (fun x y => idx_mild x.xs y) (ev_cast (f := D.asTu) asTu_ok asTu_x (ev_ixTC (i := 2) (f := fun (x : (T4 Str Str D D)) => x.c) (ev_var (i := 0) (x := entry_) rfl) (fun x => ⟨_, rfl, rfl⟩))) (ev_int (i := 0)))) some (fun _ => rfl) rfl) : EvX K (W0 E) [iM entry_] _ _)
    exact blk_ret L trivial (by exact hr_)
  · refine blk_nil ?_
    try refine Blk.nx ?_
    have hr_ := ((ev_noneO (α := Str)) : EvX K (W0 E) [iM entry_] _ _)
    exact blk_ret L trivial (by exact hr_)
noncomputable def m_u_law_lead_l3 (log_ : (List (T4 Str Str D D))) (key_ : Str) (k3 : Int → Res (List Int)) : List Int → Int → Res (List Int)
  | [], s => k3 s
  | x58 :: r3, found_ =>   (fun (place_ : Int) => ((((idx log_ place_).bind fun a59 => Res.ok (a59, ())).bind fun p61 => m_u_law_makes p61.1).bind fun (t62 : (Option Str)) => Res.need ((toD t62).okq = true ∧ (toD key_).okq = true) (Res.ok (pyEq (toD t62) (toD key_)))).bind fun b => cond b   (((Res.ok place_)).bind fun (found_ : Int) =>   m_u_law_lead_l3 log_ key_ k3 r3 found_)   (m_u_law_lead_l3 log_ key_ k3 r3 found_)) x58
noncomputable def m_u_law_lead_k5 (log_ : (List (T4 Str Str D D))) (key_ : Str) (path_ : (List Int)) (at_ : Int) (g1 : Str × (List Int) × Int → Res (List Int)) (k1 : Str × (List Int) × Int → Res (List Int)) : Int → Res (List Int) := fun found_ =>   ((Res.ok (decide (found_ < (0 : Int))))).bind fun b => cond b   (k1 (key_, path_, at_))   ((Res.need (([found_] : List Int).length + path_.length ≤ 16777216) (Res.ok (([found_] : List Int) ++ path_))).bind fun (path_ : (List Int)) =>   ((Res.ok found_)).bind fun (at_ : Int) =>   ((idx log_ found_).bind fun (t63 : (T4 Str Str D D)) => Res.ok t63.b).bind fun (key_ : Str) =>   g1 (key_, path_, at_))
noncomputable def m_u_law_lead_l1 (log_ : (List (T4 Str Str D D))) (roots_ : (List Str)) (k1 : Str × (List Int) × Int → Res (List Int)) : List Int → Str × (List Int) × Int → Res (List Int)
  | [], s => k1 s
  | x57 :: r1, (key_, path_, at_) =>   (fun (turn_ : Int) => ((Res.ok (decide (key_ ∈ roots_)))).bind fun b => cond b   (k1 (key_, path_, at_))   (((Res.ok (-(1 : Int)))).bind fun (found_ : Int) =>   (Res.need (okRange at_) (Res.ok (pyRange 0 at_))).bind fun (xs64 : List Int) => m_u_law_lead_l3 log_ key_ (m_u_law_lead_k5 log_ key_ path_ at_ (m_u_law_lead_l1 log_ roots_ k1 r1) k1) xs64 found_)) x57
noncomputable def m_u_law_lead_k6 : Str × (List Int) × Int → Res (List Int) := fun (key_, path_, at_) =>   (Res.ok path_)
noncomputable def m_u_law_lead (log_ : (List (T4 Str Str D D))) (key_ : Str) (roots_ : (List Str)) : Res (List Int) :=
  ((Res.ok ([] : List Int))).bind fun (path_ : (List Int)) =>   ((Res.ok ((log_).length : Int))).bind fun (at_ : Int) =>   (Res.need (okRange (8 : Int)) (Res.ok (pyRange 0 (8 : Int)))).bind fun (xs65 : List Int) => m_u_law_lead_l1 log_ roots_ (m_u_law_lead_k6) xs65 (key_, path_, at_)
theorem ok_u_law_lead {P : Program} {w : World} {K : PySem.W.Frag} {mg : Str → Option Value} {base : Heap} (T : Facts P w K mg) {fd : FuncData} (F : FnP K "_law_lead" "_law_lead" s_u_law_lead (He.ga K "_law_lead") fd) :
    FnOk P w K mg base (L2.CX P w) 2 (He.ga K "_law_lead") fd ["log", "key", "roots"] (spM K (fun (p : (List (T4 Str Str D D)) × Str × (List Str) × Unit) => m_u_law_lead p.1 p.2.1 p.2.2.1)) := by
  obtain ⟨fd_u_law_makes, F_u_law_makes⟩ := T.d_u_law_makes
  have G_u_law_makes := ok_u_law_makes (P := P) (w := w) (base := base) T F_u_law_makes
  have b_u_law_makes : Binds K fd_u_law_makes ["entry"] [] := F_u_law_makes.bindsN fun _ _ _ _ _ _ us hl => match us, hl with | [_], _ => rfl
  refine fn_ok F sc_u_law_lead (fun y => rfl) (fun cdv A outer s H E hr => ?_)
  refine ⟨_, (pss_cons (ps_set (i := 3) sc_u_law_lead.nd rfl (Or.inl rfl) (pe_lst pa_nil)) (pss_cons (ps_set (i := 4) sc_u_law_lead.nd rfl (Or.inl rfl) (pe_callB (cr_len rfl) (by rfl) T.n_len (by decide +kernel) (pa_cons (pv 0) pa_nil))) (pss_cons (ps_for (passes_of rfl) rfl (pi_range1 rfl T.n_range (pa_cons pe_int pa_nil)) (pg_name (i := 5) sc_u_law_lead.nd rfl (Or.inl rfl)) (pss_cons (ps_if (pt_cmpR op_in_seq (pv 1) (pv 2) rfl) (pss_one ps_break) pss_nil) (pss_cons (ps_set (i := 6) sc_u_law_lead.nd rfl (Or.inl rfl) (pe_un un_neg pe_int)) (pss_cons (ps_for (passes_of rfl) rfl (pi_range1 rfl T.n_range (pa_cons (pv 4) pa_nil)) (pg_name (i := 7) sc_u_law_lead.nd rfl (Or.inl rfl)) (pss_one (ps_if (pt_cmpR (op_eqD (Room.units hr)) (pe_callS G_u_law_makes (hr.mono (by decide)) rfl T.g_u_law_makes F_u_law_makes.kp b_u_law_makes (fun σ => passAt (takes_of rfl rfl rfl rfl) σ) (pa_cons (pe_ix (cr_ixL rfl) (pv 0) (pv 7) (fun _ _ => rfl)) pa_nil)) (pv 1) (nomark _)) (pss_one (ps_set (i := 6) sc_u_law_lead.nd rfl (Or.inl rfl) (pv 7))) pss_nil))) (pss_cons (ps_if (pt_cmpR op_lt (pv 6) pe_int (nomark _)) (pss_one ps_break) pss_nil) (pss_cons (ps_set (i := 3) sc_u_law_lead.nd rfl (Or.inl rfl) (pe_op op_cat (pe_lst (pa_cons (pv 6) pa_nil)) (pv 3))) (pss_cons (ps_set (i := 4) sc_u_law_lead.nd rfl (Or.inl rfl) (pv 6)) (pss_one (ps_set (i := 1) sc_u_law_lead.nd rfl (Or.inl rfl) (pe_ix (cr_ixT rfl) (pe_ix (cr_ixL rfl) (pv 0) (pv 6) (fun _ _ => rfl)) pe_int (fun _ _ => rfl))))))))))) (pss_one (ps_ret (pv 3)))))), ?_⟩
  rintro ⟨log_, key_, roots_, ⟨⟩⟩ F0 H0 Q KP L
  show Blk K F0 H0 KP _ [iM log_, iM key_, iM roots_, none, none, none, none, none] (m_u_law_lead log_ key_ roots_)
  unfold m_u_law_lead
  have hs_ := ((ev_ofN (en_lst (f := (fun y => ([] : List Int))) ea_nil (fun _ => rfl) (fun _ => by show 0 ≤ 100000; decide))) : EvX K (W0 E) [iM log_, iM key_, iM roots_, none, none, none, none, none] _ _)
  refine blk_seq (blk_set (i := 3) L trivial (by exact hs_) fun path_ => ?_)
  show Blk _ _ _ _ _ [iM log_, iM key_, iM roots_, iM path_, none, none, none, none] _
  try refine Blk.nx ?_
  have hs_ := ((ev_cb cx_len (fun _ _ h => nomatch h) (ea_cons (ev_var (i := 0) (x := log_) rfl) ea_nil)) : EvX K (W0 E) [iM log_, iM key_, iM roots_, iM path_, none, none, none, none] _ _)
  refine blk_seq (blk_set (i := 4) L trivial (by exact hs_) fun at_ => ?_)
  show Blk _ _ _ _ _ [iM log_, iM key_, iM roots_, iM path_, iM at_, none, none, none] _
  try refine Blk.nx ?_
  have hi_ := ((ei_range1 (ev_int (i := 8))) : EvI K (W0 E) [iM log_, iM key_, iM roots_, iM path_, iM at_, none, none, none] _ _)
  refine blk_seq (blk_for (S := Str × (List Int) × Int) (m_u_law_lead_l1 log_ roots_ (m_u_law_lead_k6)) (m_u_law_lead_k6) (fun (key_, path_, at_) => [iM log_, iM key_, iM roots_, iM path_, iM at_, none, none, none]) (key_, path_, at_) L trivial (by exact hi_) (fun _ => gx_name) (.same (.same (.same (.same (.same (.same (.same (.same .nil)))))))) (fun _ => rfl) ?_ ?_)
  · intro F1 L1 hB1 x57 r1 s_ N_ hN1
    obtain ⟨key_, path_, at_⟩ := s_
    show Blk _ _ _ _ _ [iM log_, iM key_, iM roots_, iM path_, iM at_, iM x57, none, none] (m_u_law_lead_l1 log_ roots_ (m_u_law_lead_k6) (x57 :: r1) (key_, path_, at_))
    rw [m_u_law_lead_l1]
    show Blk _ _ _ _ _ _ ((fun (turn_ : Int) => _) x57)
    generalize x57 = turn_
    show Blk _ _ _ _ _ [iM log_, iM key_, iM roots_, iM path_, iM at_, iM turn_, none, none] _
    have ht_ := ((et_test (ev_op (opx_inS false) mild_ok (ev_var (i := 1) (x := key_) rfl) (ev_var (i := 2) (x := roots_) rfl))) : EvT K (W0 E) [iM log_, iM key_, iM roots_, iM path_, iM at_, iM turn_, none, none] _ _)
    refine blk_seq (blk_if2 L1 trivial (by exact ht_) ?_ ?_)
    · exact (hB1 (key_, path_, at_)).weak (.same (.same (.same (.same (.same (.drop (.same (.same .nil))))))))
    · refine blk_nil ?_
      try refine Blk.nx ?_
      have hs_ := ((ev_un (g := fun i => -i) (ev_int (i := 1))) : EvX K (W0 E) [iM log_, iM key_, iM roots_, iM path_, iM at_, iM turn_, none, none] _ _)
      refine blk_seq (blk_set (i := 6) L1 trivial (by exact hs_) fun found_ => ?_)
      show Blk _ _ _ _ _ [iM log_, iM key_, iM roots_, iM path_, iM at_, iM turn_, iM found_, none] _
      try refine Blk.nx ?_
      have hi_ := ((ei_range1 (ev_var (i := 4) (x := at_) rfl)) : EvI K (W0 E) [iM log_, iM key_, iM roots_, iM path_, iM at_, iM turn_, iM found_, none] _ _)
      refine blk_seq (blk_for (S := Int) (m_u_law_lead_l3 log_ key_ (m_u_law_lead_k5 log_ key_ path_ at_ (m_u_law_lead_l1 log_ roots_ (m_u_law_lead_k6) r1) (m_u_law_lead_k6))) (m_u_law_lead_k5 log_ key_ path_ at_ (m_u_law_lead_l1 log_ roots_ (m_u_law_lead_k6) r1) (m_u_law_lead_k6)) (fun found_ => [iM log_, iM key_, iM roots_, iM path_, iM at_, iM turn_, iM found_, none]) found_ L1 trivial (by exact hi_) (fun _ => gx_name) (.same (.same (.same (.same (.same (.same (.same (.same .nil)))))))) (fun _ => rfl) ?_ ?_)
      · intro F3 L3 hB3 x58 r3 s_ N_ hN3
        revert s_; intro found_
        show Blk _ _ _ _ _ [iM log_, iM key_, iM roots_, iM path_, iM at_, iM turn_, iM found_, iM x58] (m_u_law_lead_l3 log_ key_ (m_u_law_lead_k5 log_ key_ path_ at_ (m_u_law_lead_l1 log_ roots_ (m_u_law_lead_k6) r1) (m_u_law_lead_k6)) (x58 :: r3) found_)
        rw [m_u_law_lead_l3]
        show Blk _ _ _ _ _ _ ((fun (place_ : Int) => _) x58)
        generalize x58 = place_
        show Blk _ _ _ _ _ [iM log_, iM key_, iM roots_, iM path_, iM at_, iM turn_, iM found_, iM place_] _
        have ht_ := ((et_test (ev_op opx_eqD mild_need (ev_call (f := (fun (p : (T4 Str Str D D) × Unit) => m_u_law_makes p.1)) (ea_cons (ev_op opx_ixL (fun x y => idx_mild x y) (ev_var (i := 0) (x := log_) rfl) (ev_var (i := 7) (x := place_) rfl)) ea_nil)) (ev_var (i := 1) (x := key_) rfl))) : EvT K (W0 E) [iM log_, iM key_, iM roots_, iM path_, iM at_, iM turn_, iM found_, iM place_] _ _)
        refine blk_if2 L3 trivial (by exact ht_) ?_ ?_
        · have hs_ := ((ev_var (i := 7) (x := place_) rfl) : EvX K (W0 E) [iM log_, iM key_, iM roots_, iM path_, iM at_, iM turn_, iM found_, iM place_] _ _)
          refine blk_set (i := 6) L3 trivial (by exact hs_) fun found_ => ?_
          show Blk _ _ _ _ _ [iM log_, iM key_, iM roots_, iM path_, iM at_, iM turn_, iM found_, iM place_] _
          try refine Blk.nx ?_
          exact (hN3 found_).weak (.same (.same (.same (.same (.same (.same (.same (.drop .nil))))))))
        · refine blk_nil ?_
          try refine Blk.nx ?_
          exact (hN3 found_).weak (.same (.same (.same (.same (.same (.same (.same (.drop .nil))))))))
      · intro found_
        show Blk _ _ _ _ _ [iM log_, iM key_, iM roots_, iM path_, iM at_, iM turn_, iM found_, none] ((m_u_law_lead_k5 log_ key_ path_ at_ (m_u_law_lead_l1 log_ roots_ (m_u_law_lead_k6) r1) (m_u_law_lead_k6)) found_)
        unfold m_u_law_lead_k5
        try refine Blk.nx ?_
        have ht_ := ((et_test (ev_op (opx_B0 (g := fun i j => decide (i < j))) mild_ok (ev_var (i := 6) (x := found_) rfl) (ev_int (i := 0)))) : EvT K (W0 E) [iM log_, iM key_, iM roots_, iM path_, iM at_, iM turn_, iM found_, none] _ _)
        refine blk_seq (blk_if2 L1 trivial (by exact ht_) ?_ ?_)
        · exact (hB1 (key_, path_, at_)).weak (.same (.same (.same (.same (.same (.drop (.drop (.same .nil))))))))
        · refine blk_nil ?_
          try refine Blk.nx ?_
          have hs_ := ((ev_ofN (en_cat (ev_ofN (en_lst (f := (fun y => ([y.1] : List Int))) (ea_cons (ev_var (i := 6) (x := found_) rfl) ea_nil) (fun _ => rfl) (fun _ => by show 1 ≤ 100000; decide))) (ev_var (i := 3) (x := path_) rfl))) : EvX K (W0 E) [iM log_, iM key_, iM roots_, iM path_, iM at_, iM turn_, iM found_, none] _ _)
          refine blk_seq (blk_set (i := 3) L1 trivial (by exact hs_) fun path_ => ?_)
          show Blk _ _ _ _ _ [iM log_, iM key_, iM roots_, iM path_, iM at_, iM turn_, iM found_, none] _
          try refine Blk.nx ?_
          have hs_ := ((ev_var (i := 6) (x := found_) rfl) : EvX K (W0 E) [iM log_, iM key_, iM roots_, iM path_, iM at_, iM turn_, iM found_, none] _ _)
          refine blk_seq (blk_set (i := 4) L1 trivial (by exact hs_) fun at_ => ?_)
          show Blk _ _ _ _ _ [iM log_, iM key_, iM roots_, iM path_, iM at_, iM turn_, iM found_, none] _
          try refine Blk.nx ?_
          have hs_ := ((ev_ixTC (i := 1) (f := fun (x : (T4 Str Str D D)) => x.b) (ev_op opx_ixL (fun x y => idx_mild x y) (ev_var (i := 0) (x := log_) rfl) (ev_var (i := 6) (x := found_) rfl)) (fun x => ⟨_, rfl, rfl⟩)) : EvX K (W0 E) [iM log_, iM key_, iM roots_, iM path_, iM at_, iM turn_, iM found_, none] _ _)
          refine blk_set (i := 1) L1 trivial (by exact hs_) fun key_ => ?_
          show Blk _ _ _ _ _ [iM log_, iM key_, iM roots_, iM path_, iM at_, iM turn_, iM found_, none] _
          try refine Blk.nx ?_
          exact (hN1 (key_, path_, at_)).weak (.same (.same (.same (.same (.same (.drop (.drop (.same .nil))))))))
  · rintro ⟨key_, path_, at_⟩
    show Blk _ _ _ _ _ [iM log_, iM key_, iM roots_, iM path_, iM at_, none, none, none] ((m_u_law_lead_k6) (key_, path_, at_))
    unfold m_u_law_lead_k6
    try refine Blk.nx ?_
    have hr_ := ((ev_var (i := 3) (x := path_) rfl) : EvX K (W0 E) [iM log_, iM key_, iM roots_, iM path_, iM at_, none, none, none] _ _)
    exact blk_ret L trivial (by exact hr_)
noncomputable def m_u_law_changed_k3  : (List Int) → Res (List Int) := fun out_ =>   (Res.ok out_)
noncomputable def m_u_law_changed_k2 (cell_ : Int) (how_ : Int) : (List Int) → Res (List Int) := fun out_ =>   ((Res.ok (decide (how_ = (2 : Int))))).bind fun b => cond b   ((Res.need (0 < ((out_.length : Int) + (1 : Int))) (Res.ok ((cell_ / (6 : Int)) % ((out_.length : Int) + (1 : Int))))).bind fun (j66 : Int) => ((Res.ok ((cell_ / (60 : Int)) % (20 : Int)))).bind fun (y67 : Int) => Res.need (out_.length < 16777216 ∧ 0 ≤ j66 ∧ j66 < 2 ^ 63) ((fun (out_ : (List Int)) =>   m_u_law_changed_k3 out_) (out_.take j66.toNat ++ [y67] ++ out_.drop j66.toNat)))   (m_u_law_changed_k3 out_)
noncomputable def m_u_law_changed_k1 (cell_ : Int) (how_ : Int) : (List Int) → Res (List Int) := fun out_ =>   (cond (decide (how_ = (1 : Int))) ((Res.ok (decide ((0 : Int) < (out_.length : Int))))) (Res.ok false)).bind fun b => cond b   ((Res.need (0 < (out_.length : Int)) (Res.ok ((cell_ / (6 : Int)) % (out_.length : Int)))).bind fun (j71 : Int) => Res.need (out_.length ≤ 16777216) (match ixN out_.length j71 with | some a73 => (fun (out_ : (List Int)) =>   (m_u_law_changed_k2 cell_ how_) out_) (out_.eraseIdx a73) | none => Res.stuck))   ((m_u_law_changed_k2 cell_ how_) out_)
noncomputable def m_u_law_changed_k4 (cell_ : Int) (how_ : Int) : (List Int) → Res (List Int) := fun out_ =>   (m_u_law_changed_k1 cell_ how_) out_
noncomputable def m_u_law_changed (path_ : (List Int)) (cell_ : Int) : Res (List Int) :=
  ((Res.ok path_)).bind fun (out_ : (List Int)) =>   ((Res.ok (cell_ % (6 : Int)))).bind fun (how_ : Int) =>   (cond (decide (how_ = (0 : Int))) ((Res.ok (decide ((0 : Int) < (out_.length : Int))))) (Res.ok false)).bind fun b => cond b   (((Res.ok ((cell_ / (60 : Int)) % (20 : Int)))).bind fun (y74 : Int) => (Res.need (0 < (out_.length : Int)) (Res.ok ((cell_ / (6 : Int)) % (out_.length : Int)))).bind fun (j75 : Int) => match ixN out_.length j75 with | some a76 => (m_u_law_changed_k4 cell_ how_) (out_.set a76 y74) | none => Res.stuck)   ((m_u_law_changed_k1 cell_ how_) out_)
theorem ok_u_law_changed {P : Program} {w : World} {K : PySem.W.Frag} {mg : Str → Option Value} {base : Heap} (T : Facts P w K mg) {fd : FuncData} (F : FnP K "_law_changed" "_law_changed" s_u_law_changed (He.ga K "_law_changed") fd) :
    FnOk P w K mg base (L2.CX P w) 1 (He.ga K "_law_changed") fd ["path", "cell"] (spM K (fun (p : (List Int) × Int × Unit) => m_u_law_changed p.1 p.2.1)) := by
  refine fn_ok F sc_u_law_changed (fun y => rfl) (fun cdv A outer s H E hr => ?_)
  refine ⟨_, (pss_cons (ps_set (i := 2) sc_u_law_changed.nd rfl (Or.inl rfl) (pe_callTy (T := "list") (cr_listof rfl) (by rfl) T.n_list (by decide +kernel) (pa_cons (pv 0) pa_nil))) (pss_cons (ps_set (i := 3) sc_u_law_changed.nd rfl (Or.inl rfl) (pe_op op_mod (pv 1) pe_int)) (pss_cons (ps_if (PW.pt (pw_and (pt_cmpR op_eq (pv 3) pe_int (nomark _)) (pw_and1 (pt_cmpR op_gt (pe_callB (cr_len rfl) (by rfl) T.n_len (by decide +kernel) (pa_cons (pv 2) pa_nil)) pe_int (nomark _))))) (pss_one (ps_asg (pe_op op_mod (pe_op op_fdiv (pv 1) pe_int) pe_int) (pg_sub (pv 2) (pe_op op_mod (pe_op op_fdiv (pv 1) pe_int) (pe_callB (cr_len rfl) (by rfl) T.n_len (by decide +kernel) (pa_cons (pv 2) pa_nil))) set_list))) pss_nil) (pss_cons (ps_if (PW.pt (pw_and (pt_cmpR op_eq (pv 3) pe_int (nomark _)) (pw_and1 (pt_cmpR op_gt (pe_callB (cr_len rfl) (by rfl) T.n_len (by decide +kernel) (pa_cons (pv 2) pa_nil)) pe_int (nomark _))))) (pss_one (ps_expr (pe_bm PySem.F.plainAttrs_list PySem.F.slot_list_pop PySem.F.type_list_pop mt_popAt (pv 2) (pa_cons (pe_op op_mod (pe_op op_fdiv (pv 1) pe_int) (pe_callB (cr_len rfl) (by rfl) T.n_len (by decide +kernel) (pa_cons (pv 2) pa_nil))) pa_nil)))) pss_nil) (pss_cons (ps_if (pt_cmpR op_eq (pv 3) pe_int (nomark _)) (pss_one (ps_expr (pe_bm PySem.F.plainAttrs_list PySem.F.slot_list_insert PySem.F.type_list_insert mt_insert (pv 2) (pa_cons (pe_op op_mod (pe_op op_fdiv (pv 1) pe_int) (pe_op op_add (pe_callB (cr_len rfl) (by rfl) T.n_len (by decide +kernel) (pa_cons (pv 2) pa_nil)) pe_int)) (pa_cons (pe_op op_mod (pe_op op_fdiv (pv 1) pe_int) pe_int) pa_nil))))) pss_nil) (pss_one (ps_ret (pv 2)))))))), ?_⟩
  rintro ⟨path_, cell_, ⟨⟩⟩ F0 H0 Q KP L
  show Blk K F0 H0 KP _ [iM path_, iM cell_, none, none] (m_u_law_changed path_ cell_)
  unfold m_u_law_changed
  have hs_ := ((en_list (ev_var (i := 0) (x := path_) rfl)) : EvN K (W0 E) [iM path_, iM cell_, none, none] _ _)
  refine blk_seq (blk_own (i := 2) L trivial (by exact hs_) fun out_ => ?_)
  show Blk _ _ _ _ _ [iM path_, iM cell_, oW out_, none] _
  try refine Blk.nx ?_
  have hs_ := ((ev_opI (C := (fun _ j => 0 < j)) (g := fun i j => i % j) (fun x y _ h => by cases h; (show (0 : Int) < _; decide)) (ev_var (i := 1) (x := cell_) rfl) (ev_int (i := 6))) : EvX K (W0 E) [iM path_, iM cell_, oW out_, none] _ _)
  refine blk_seq (blk_set (i := 3) L trivial (by exact hs_) fun how_ => ?_)
  show Blk _ _ _ _ _ [iM path_, iM cell_, oW out_, iM how_] _
  try refine Blk.nx ?_
  have ht_ := ((et_and (et_test (ev_op opx_eqI mild_ok (ev_var (i := 3) (x := how_) rfl) (ev_int (i := 0)))) (et_test (ev_op (opx_B0 (g := fun i j => decide (j < i))) mild_ok (ev_lenO (j := 2) (xs := out_) rfl) (ev_int (i := 0))))) : EvT K (W0 E) [iM path_, iM cell_, oW out_, iM how_] _ _)
  refine blk_seq (blk_ifj (S := (List Int)) (fun out_ => [iM path_, iM cell_, oW out_, iM how_]) (m_u_law_changed_k1 cell_ how_) L trivial (by exact ht_) ?_ ?_ ?_)
  · intro out_
    show Blk _ _ _ _ _ [iM path_, iM cell_, oW out_, iM how_] ((m_u_law_changed_k1 cell_ how_) out_)
    unfold m_u_law_changed_k1
    try refine Blk.nx ?_
    have ht_ := ((et_and (et_test (ev_op opx_eqI mild_ok (ev_var (i := 3) (x := how_) rfl) (ev_int (i := 1)))) (et_test (ev_op (opx_B0 (g := fun i j => decide (j < i))) mild_ok (ev_lenO (j := 2) (xs := out_) rfl) (ev_int (i := 0))))) : EvT K (W0 E) [iM path_, iM cell_, oW out_, iM how_] _ _)
    refine blk_seq (blk_ifj (S := (List Int)) (fun out_ => [iM path_, iM cell_, oW out_, iM how_]) (m_u_law_changed_k2 cell_ how_) L trivial (by exact ht_) ?_ ?_ ?_)
    · intro out_
      show Blk _ _ _ _ _ [iM path_, iM cell_, oW out_, iM how_] ((m_u_law_changed_k2 cell_ how_) out_)
      unfold m_u_law_changed_k2
      try refine Blk.nx ?_
      have ht_ := ((et_test (ev_op opx_eqI mild_ok (ev_var (i := 3) (x := how_) rfl) (ev_int (i := 2)))) : EvT K (W0 E) [iM path_, iM cell_, oW out_, iM how_] _ _)
      refine blk_seq (blk_ifj (S := (List Int)) (fun out_ => [iM path_, iM cell_, iM out_, iM how_]) m_u_law_changed_k3 L trivial (by exact ht_) ?_ ?_ ?_)
      · intro out_
        show Blk _ _ _ _ _ [iM path_, iM cell_, iM out_, iM how_] (m_u_law_changed_k3 out_)
        unfold m_u_law_changed_k3
        try refine Blk.nx ?_
        have hr_ := ((ev_var (i := 2) (x := out_) rfl) : EvX K (W0 E) [iM path_, iM cell_, iM out_, iM how_] _ _)
        exact blk_ret L trivial (by exact hr_)
      · intro hk3
        have hi_ := ((ev_op (opx_I (C := (fun _ j => 0 < j)) (g := fun i j => i % j)) mild_need (ev_opI (C := CDiv) (g := fun i j => i / j) (fun x y _ h => by cases h; exact ⟨by decide, by decide⟩) (ev_var (i := 1) (x := cell_) rfl) (ev_int (i := 6))) (ev_op (opx_I0 (g := fun i j => i + j)) mild_ok (ev_lenO (j := 2) (xs := out_) rfl) (ev_int (i := 1)))) : EvX K (W0 E) [iM path_, iM cell_, oW out_, iM how_] _ _)
        have he_ := ((ev_opI (C := (fun _ j => 0 < j)) (g := fun i j => i % j) (fun x y _ h => by cases h; (show (0 : Int) < _; decide)) (ev_opI (C := CDiv) (g := fun i j => i / j) (fun x y _ h => by cases h; exact ⟨by decide, by decide⟩) (ev_var (i := 1) (x := cell_) rfl) (ev_int (i := 60))) (ev_int (i := 20))) : EvX K (W0 E) [iM path_, iM cell_, oW out_, iM how_] _ _)
        refine blk_insI (i := 2) (xs := out_) L trivial rfl (by exact hi_) (by exact he_) fun j69 y70 => ?_
        show Blk _ _ _ _ _ [iM path_, iM cell_, oW ((out_.take j69.toNat ++ [y70] ++ out_.drop j69.toNat)), iM how_] ((fun (out_ : (List Int)) => _) (out_.take j69.toNat ++ [y70] ++ out_.drop j69.toNat))
        generalize (out_.take j69.toNat ++ [y70] ++ out_.drop j69.toNat) = out_
        show Blk _ _ _ _ _ [iM path_, iM cell_, oW out_, iM how_] _
        try refine Blk.nx ?_
        refine blk_freeze 2 rfl ?_
        show Blk _ _ _ _ _ [iM path_, iM cell_, iM out_, iM how_] _
        exact (hk3 out_).weak (.same (.same (.same (.same .nil))))
      · intro hk3
        refine blk_nil ?_
        try refine Blk.nx ?_
        refine blk_freeze 2 rfl ?_
        show Blk _ _ _ _ _ [iM path_, iM cell_, iM out_, iM how_] _
        exact (hk3 out_).weak (.same (.same (.same (.same .nil))))
    · intro hk2
      have hi_ := ((ev_op (opx_I (C := (fun _ j => 0 < j)) (g := fun i j => i % j)) mild_need (ev_opI (C := CDiv) (g := fun i j => i / j) (fun x y _ h => by cases h; exact ⟨by decide, by decide⟩) (ev_var (i := 1) (x := cell_) rfl) (ev_int (i := 6))) (ev_lenO (j := 2) (xs := out_) rfl)) : EvX K (W0 E) [iM path_, iM cell_, oW out_, iM how_] _ _)
      refine blk_popI (i := 2) (xs := out_) L trivial rfl (by exact hi_) fun out_ => ?_
      show Blk _ _ _ _ _ [iM path_, iM cell_, oW out_, iM how_] _
      try refine Blk.nx ?_
      exact (hk2 out_).weak (.same (.same (.same (.same .nil))))
    · intro hk2
      refine blk_nil ?_
      try refine Blk.nx ?_
      exact (hk2 out_).weak (.same (.same (.same (.same .nil))))
  · intro hk1
    have he_ := ((ev_opI (C := (fun _ j => 0 < j)) (g := fun i j => i % j) (fun x y _ h => by cases h; (show (0 : Int) < _; decide)) (ev_opI (C := CDiv) (g := fun i j => i / j) (fun x y _ h => by cases h; exact ⟨by decide, by decide⟩) (ev_var (i := 1) (x := cell_) rfl) (ev_int (i := 60))) (ev_int (i := 20))) : EvX K (W0 E) [iM path_, iM cell_, oW out_, iM how_] _ _)
    have hi_ := ((ev_op (opx_I (C := (fun _ j => 0 < j)) (g := fun i j => i % j)) mild_need (ev_opI (C := CDiv) (g := fun i j => i / j) (fun x y _ h => by cases h; exact ⟨by decide, by decide⟩) (ev_var (i := 1) (x := cell_) rfl) (ev_int (i := 6))) (ev_lenO (j := 2) (xs := out_) rfl)) : EvX K (W0 E) [iM path_, iM cell_, oW out_, iM how_] _ _)
    refine blk_setI (i := 2) (xs := out_) (f := (m_u_law_changed_k4 cell_ how_)) L trivial rfl (by exact he_) (by exact hi_) fun out_ => ?_
    show Blk _ _ _ _ _ [iM path_, iM cell_, oW out_, iM how_] ((m_u_law_changed_k4 cell_ how_) out_)
    unfold m_u_law_changed_k4
    show Blk _ _ _ _ _ [iM path_, iM cell_, oW out_, iM how_] _
    try refine Blk.nx ?_
    exact (hk1 out_).weak (.same (.same (.same (.same .nil))))
  · intro hk1
    refine blk_nil ?_
    try refine Blk.nx ?_
    exact (hk1 out_).weak (.same (.same (.same (.same .nil))))
noncomputable def m_u_law_due_k6 (made_ : (Option Str)) (g2 : (List Str) → Res Bool) : (List Str) → Res Bool := fun keys_ =>   (((Res.ok made_)).bind optGet).bind fun (y90 : Str) => Res.need (keys_.length < 16777216) ((fun (keys_ : (List Str)) =>   g2 keys_) (keys_ ++ [y90]))
noncomputable def m_u_law_due_l2 (roots_ : (List Str)) (log_ : (List (T4 Str Str D D))) (index_ : Int) (path_ : (List Int)) (k2 : (List Str) → Res Bool) : List Int → (List Str) → Res Bool
  | [], s => k2 s
  | x77 :: r2, keys_ =>   (fun (k_ : Int) => (((idx path_ k_).bind fun (t78 : Int) => Res.ok (decide (index_ ≤ t78))).bind fun b81 => cond b81 (Res.ok true) (cond (decide ((0 : Int) < k_)) ((idx path_ k_).bind fun (t79 : Int) => (idx path_ (k_ - (1 : Int))).bind fun (t80 : Int) => Res.ok (decide (t79 ≤ t80))) (Res.ok false))).bind fun b => cond b   ((Res.ok false))   (((((idx path_ k_).bind fun (t82 : Int) => idx log_ t82).bind fun a83 => Res.ok (a83, ())).bind fun p85 => m_u_law_makes p85.1).bind fun (made_ : (Option Str)) =>   ((Res.ok (toD made_).isNon)).bind fun b => cond b   ((Res.ok false))   ((((idx path_ k_).bind fun (t86 : Int) => idx log_ t86).bind fun (t87 : (T4 Str Str D D)) => Res.ok t87.b).bind fun (author_ : Str) =>   ((cond (decide (k_ = (0 : Int))) ((Res.ok (!decide (author_ ∈ roots_)))) (Res.ok false)).bind fun b89 => cond b89 (Res.ok true) (cond (decide ((0 : Int) < k_)) ((idx keys_ ((keys_.length : Int) - (1 : Int))).bind fun (t88 : Str) => Res.ok (!(author_ == t88))) (Res.ok false))).bind fun b => cond b   ((Res.ok false))   (((Res.ok (decide (k_ = (0 : Int))))).bind fun b => cond b   (((Res.ok author_)).bind fun (y92 : Str) => Res.need (keys_.length < 16777216) ((fun (keys_ : (List Str)) =>   (m_u_law_due_k6 made_ (m_u_law_due_l2 roots_ log_ index_ path_ k2 r2)) keys_) (keys_ ++ [y92])))   ((m_u_law_due_k6 made_ (m_u_law_due_l2 roots_ log_ index_ path_ k2 r2)) keys_))))) x77
noncomputable def m_u_law_due_l8 (keys_ : (List Str)) (k8 : Unit → Res Bool) : List (T4 Str Str D D) → Unit → Res Bool
  | [], s => k8 s
  | x97 :: r8, _ =>   (fun (entry_ : (T4 Str Str D D)) => ((Res.need ((toD entry_).plain = true) (Res.ok (isI "tuple" (toD entry_)))).bind fun b100 => cond b100 (cond (decide ((4 : Int) = (4 : Int))) (cond (entry_.a == ("withdraw" : Str)) ((((((Res.ok entry_.c)).bind D.asTu).bind fun (t98 : (Tu D)) => idx (t98).xs (0 : Int)).bind D.asStr).bind fun (t99 : Str) => Res.ok (decide (t99 ∈ keys_))) (Res.ok false)) (Res.ok false)) (Res.ok false)).bind fun b => cond b   ((Res.ok false))   (m_u_law_due_l8 keys_ k8 r8 ())) x97
noncomputable def m_u_law_due_k9 : Unit → Res Bool := fun _ =>   (Res.ok true)
noncomputable def m_u_law_due_k10 (log_ : (List (T4 Str Str D D))) (index_ : Int) (key_ : Str) : (List Str) → Res Bool := fun keys_ =>   ((idx keys_ (((keys_).length : Int) - (1 : Int))).bind fun (t94 : Str) => Res.ok (!(t94 == key_))).bind fun b => cond b   ((Res.ok false))   (((Res.ok none).bind fun (lo95 : Option Int) => (Res.ok (some index_)).bind fun (hi96 : Option Int) => Res.ok (cutL log_ lo95 hi96)).bind fun (xs101 : List (T4 Str Str D D)) => m_u_law_due_l8 keys_ (m_u_law_due_k9) xs101 ())
noncomputable def m_u_law_due_k1 (roots_ : (List Str)) (log_ : (List (T4 Str Str D D))) (index_ : Int) (key_ : Str) (path_ : (List Int)) : (List Str) → Res Bool := fun keys_ =>   (Res.need (okRange ((path_).length : Int)) (Res.ok (pyRange 0 ((path_).length : Int)))).bind fun (xs102 : List Int) => m_u_law_due_l2 roots_ log_ index_ path_ (m_u_law_due_k10 log_ index_ key_) xs102 keys_
noncomputable def m_u_law_due (roots_ : (List Str)) (log_ : (List (T4 Str Str D D))) (index_ : Int) (key_ : Str) (path_ : (List Int)) : Res Bool :=
  ((Res.ok ([] : List Str))).bind fun (keys_ : (List Str)) =>   ((Res.ok (decide (((path_).length : Int) = (0 : Int))))).bind fun b => cond b   (((Res.ok (!decide (key_ ∈ roots_)))).bind fun b => cond b   ((Res.ok false))   (((Res.ok ([key_] : List Str))).bind fun (keys_ : (List Str)) =>   (m_u_law_due_k1 roots_ log_ index_ key_ path_) keys_))   ((m_u_law_due_k1 roots_ log_ index_ key_ path_) keys_)
theorem ok_u_law_due {P : Program} {w : World} {K : PySem.W.Frag} {mg : Str → Option Value} {base : Heap} (T : Facts P w K mg) {fd : FuncData} (F : FnP K "_law_due" "_law_due" s_u_law_due (He.ga K "_law_due") fd) :
    FnOk P w K mg base (L2.CX P w) 2 (He.ga K "_law_due") fd ["roots", "log", "index", "key", "path"] (spM K (fun (p : (List Str) × (List (T4 Str Str D D)) × Int × Str × (List Int) × Unit) => m_u_law_due p.1 p.2.1 p.2.2.1 p.2.2.2.1 p.2.2.2.2.1)) := by
  obtain ⟨fd_u_law_makes, F_u_law_makes⟩ := T.d_u_law_makes
  have G_u_law_makes := ok_u_law_makes (P := P) (w := w) (base := base) T F_u_law_makes
  have b_u_law_makes : Binds K fd_u_law_makes ["entry"] [] := F_u_law_makes.bindsN fun _ _ _ _ _ _ us hl => match us, hl with | [_], _ => rfl
  refine fn_ok F sc_u_law_due (fun y => rfl) (fun cdv A outer s H E hr => ?_)
  refine ⟨_, (pss_cons (ps_set (i := 5) sc_u_law_due.nd rfl (Or.inl rfl) (pe_lst pa_nil)) (pss_cons (ps_if (pt_cmpR op_eq (pe_callB (cr_len rfl) (by rfl) T.n_len (by decide +kernel) (pa_cons (pv 4) pa_nil)) pe_int (nomark _)) (pss_cons (ps_if (pt_cmpR op_notIn_seq (pv 3) (pv 0) rfl) (pss_one (ps_ret pe_bl)) pss_nil) (pss_one (ps_set (i := 5) sc_u_law_due.nd rfl (Or.inl rfl) (pe_lst (pa_cons (pv 3) pa_nil))))) pss_nil) (pss_cons (ps_for (passes_of rfl) rfl (pi_range1 rfl T.n_range (pa_cons (pe_callB (cr_len rfl) (by rfl) T.n_len (by decide +kernel) (pa_cons (pv 4) pa_nil)) pa_nil)) (pg_name (i := 6) sc_u_law_due.nd rfl (Or.inl rfl)) (pss_cons (ps_if (PW.pt (pw_or (pt_cmpR op_ge (pe_ix (cr_ixL rfl) (pv 4) (pv 6) (fun _ _ => rfl)) (pv 2) (nomark _)) (pw_or1 (PW.pt (pw_and (pt_cmpR op_gt (pv 6) pe_int (nomark _)) (pw_and1 (pt_cmpR op_le (pe_ix (cr_ixL rfl) (pv 4) (pv 6) (fun _ _ => rfl)) (pe_ix (cr_ixL rfl) (pv 4) (pe_op op_sub (pv 6) pe_int) (fun _ _ => rfl)) (nomark _)))))))) (pss_one (ps_ret pe_bl)) pss_nil) (pss_cons (ps_set (i := 7) sc_u_law_due.nd rfl (Or.inl rfl) (pe_callS G_u_law_makes (hr.mono (by decide)) rfl T.g_u_law_makes F_u_law_makes.kp b_u_law_makes (fun σ => passAt (takes_of rfl rfl rfl rfl) σ) (pa_cons (pe_ix (cr_ixL rfl) (pv 1) (pe_ix (cr_ixL rfl) (pv 4) (pv 6) (fun _ _ => rfl)) (fun _ _ => rfl)) pa_nil))) (pss_cons (ps_if (pt_cmpR op_isN (pv 7) pe_non (nomark _)) (pss_one (ps_ret pe_bl)) pss_nil) (pss_cons (ps_set (i := 8) sc_u_law_due.nd rfl (Or.inl rfl) (pe_ix (cr_ixT rfl) (pe_ix (cr_ixL rfl) (pv 1) (pe_ix (cr_ixL rfl) (pv 4) (pv 6) (fun _ _ => rfl)) (fun _ _ => rfl)) pe_int (fun _ _ => rfl))) (pss_cons (ps_if (PW.pt (pw_or (PW.pt (pw_and (pt_cmpR op_eq (pv 6) pe_int (nomark _)) (pw_and1 (pt_cmpR op_notIn_seq (pv 8) (pv 0) rfl)))) (pw_or1 (PW.pt (pw_and (pt_cmpR op_gt (pv 6) pe_int (nomark _)) (pw_and1 (pt_cmpR op_ne (pv 8) (pe_ix (cr_ixL rfl) (pv 5) (pe_op op_sub (pe_callB (cr_len rfl) (by rfl) T.n_len (by decide +kernel) (pa_cons (pv 5) pa_nil)) pe_int) (fun _ _ => rfl)) (nomark _)))))))) (pss_one (ps_ret pe_bl)) pss_nil) (pss_cons (ps_if (pt_cmpR op_eq (pv 6) pe_int (nomark _)) (pss_one (ps_expr (pe_bm PySem.F.plainAttrs_list PySem.F.slot_list_append PySem.F.type_list_append mt_append (pv 5) (pa_cons (pv 8) pa_nil)))) pss_nil) (pss_one (ps_expr (pe_bm PySem.F.plainAttrs_list PySem.F.slot_list_append PySem.F.type_list_append mt_append (pv 5) (pa_cons (pv 7) pa_nil))))))))))) (pss_cons (ps_if (pt_cmpR op_ne (pe_ix (cr_ixL rfl) (pv 5) (pe_op op_sub (pe_callB (cr_len rfl) (by rfl) T.n_len (by decide +kernel) (pa_cons (pv 5) pa_nil)) pe_int) (fun _ _ => rfl)) (pv 3) (nomark _)) (pss_one (ps_ret pe_bl)) pss_nil) (pss_cons (ps_for (passes_of rfl) rfl (pi_list (pe_slice (cr_slL rfl) (pv 1) po_none (po_some (pv 2)))) (pg_name (i := 9) sc_u_law_due.nd rfl (Or.inl rfl)) (pss_one (ps_if (PW.pt (pw_and (pt_val (pe_callB call_isi (by rfl) T.n_isinstance (by decide +kernel) (pa_cons (pv 9) (pa_cons (pe_bltn (v := .ty "tuple") (by rfl) T.n_tuple (by decide +kernel) rfl) pa_nil)))) (pw_and (pt_cmpR op_eq (pe_callB (cr_len rfl) (by rfl) T.n_len (by decide +kernel) (pa_cons (pv 9) pa_nil)) pe_int (nomark _)) (pw_and (pt_cmpR op_eq (pe_ix (cr_ixT rfl) (pv 9) pe_int (fun _ _ => rfl)) pe_str (nomark _)) (pw_and1 (pt_cmpR op_in_seq (pe_ix (cr_ixT rfl) (pe_ix (cr_ixT rfl) (pv 9) pe_int (fun _ _ => rfl)) pe_int (fun _ _ => rfl)) (pv 5) rfl)))))) (pss_one (ps_ret pe_bl)) pss_nil))) (pss_one (ps_ret pe_bl))))))), ?_⟩
  rintro ⟨roots_, log_, index_, key_, path_, ⟨⟩⟩ F0 H0 Q KP L
  show Blk K F0 H0 KP _ [iM roots_, iM log_, iM index_, iM key_, iM path_, none, none, none, none, none] (m_u_law_due roots_ log_ index_ key_ path_)
  unfold m_u_law_due
  have hs_ := ((en_lst (f := (fun y => ([] : List Str))) ea_nil (fun _ => rfl) (fun _ => by show 0 ≤ 100000; decide)) : EvN K (W0 E) [iM roots_, iM log_, iM index_, iM key_, iM path_, none, none, none, none, none] _ _)
  refine blk_seq (blk_own (i := 5) L trivial (by exact hs_) fun keys_ => ?_)
  show Blk _ _ _ _ _ [iM roots_, iM log_, iM index_, iM key_, iM path_, oW keys_, none, none, none, none] _
  try refine Blk.nx ?_
  have ht_ := ((et_test (ev_op opx_eqI mild_ok (ev_cb cx_len (fun _ _ h => nomatch h) (ea_cons (ev_var (i := 4) (x := path_) rfl) ea_nil)) (ev_int (i := 0)))) : EvT K (W0 E) [iM roots_, iM log_, iM index_, iM key_, iM path_, oW keys_, none, none, none, none] _ _)
  refine blk_seq (blk_ifj (S := (List Str)) (fun keys_ => [iM roots_, iM log_, iM index_, iM key_, iM path_, oW keys_, none, none, none, none]) (m_u_law_due_k1 roots_ log_ index_ key_ path_) L trivial (by exact ht_) ?_ ?_ ?_)
  · intro keys_
    show Blk _ _ _ _ _ [iM roots_, iM log_, iM index_, iM key_, iM path_, oW keys_, none, none, none, none] ((m_u_law_due_k1 roots_ log_ index_ key_ path_) keys_)
    unfold m_u_law_due_k1
    try refine Blk.nx ?_
    have hi_ := ((ei_range1 (ev_cb cx_len (fun _ _ h => nomatch h) (ea_cons (ev_var (i := 4) (x := path_) rfl) ea_nil))) : EvI K (W0 E) [iM roots_, iM log_, iM index_, iM key_, iM path_, oW keys_, none, none, none, none] _ _)
    refine blk_seq (blk_for (S := (List Str)) (m_u_law_due_l2 roots_ log_ index_ path_ (m_u_law_due_k10 log_ index_ key_)) (m_u_law_due_k10 log_ index_ key_) (fun keys_ => [iM roots_, iM log_, iM index_, iM key_, iM path_, oW keys_, none, none, none, none]) keys_ L trivial (by exact hi_) (fun _ => gx_name) (.same (.same (.same (.same (.same (.same (.same (.same (.same (.same .nil)))))))))) (fun _ => rfl) ?_ ?_)
    · intro F2 L2 hB2 x77 r2 s_ N_ hN2
      revert s_; intro keys_
      show Blk _ _ _ _ _ [iM roots_, iM log_, iM index_, iM key_, iM path_, oW keys_, iM x77, none, none, none] (m_u_law_due_l2 roots_ log_ index_ path_ (m_u_law_due_k10 log_ index_ key_) (x77 :: r2) keys_)
      rw [m_u_law_due_l2]
      show Blk _ _ _ _ _ _ ((fun (k_ : Int) => _) x77)
      generalize x77 = k_
      show Blk _ _ _ _ _ [iM roots_, iM log_, iM index_, iM key_, iM path_, oW keys_, iM k_, none, none, none] _
      have ht_ := ((et_or (et_test (ev_op (opx_B0 (g := fun i j => decide (j ≤ i))) mild_ok (ev_op opx_ixL (fun x y => idx_mild x y) (ev_var (i := 4) (x := path_) rfl) (ev_var (i := 6) (x := k_) rfl)) (ev_var (i := 2) (x := index_) rfl))) (et_and (et_test (ev_op (opx_B0 (g := fun i j => decide (j < i))) mild_ok (ev_var (i := 6) (x := k_) rfl) (ev_int (i := 0)))) (et_test (ev_op (opx_B0 (g := fun i j => decide (i ≤ j))) mild_ok (ev_op opx_ixL (fun x y => idx_mild x y) (ev_var (i := 4) (x := path_) rfl) (ev_var (i := 6) (x := k_) rfl)) (ev_op opx_ixL (fun x y => idx_mild x y) (ev_var (i := 4) (x := path_) rfl) (ev_op (opx_I0 (g := fun i j => i - j)) mild_ok (ev_var (i := 6) (x := k_) rfl) (ev_int (i := 1)))))))) : EvT K (W0 E) [iM roots_, iM log_, iM index_, iM key_, iM path_, oW keys_, iM k_, none, none, none] _ _)
      refine blk_seq (blk_if2 L2 trivial (by exact ht_) ?_ ?_)
      · refine blk_freeze 5 rfl ?_
        show Blk _ _ _ _ _ [iM roots_, iM log_, iM index_, iM key_, iM path_, iM keys_, iM k_, none, none, none] _
        have hr_ := ((ev_bl (b := false)) : EvX K (W0 E) [iM roots_, iM log_, iM index_, iM key_, iM path_, iM keys_, iM k_, none, none, none] _ _)
        exact blk_ret L2 trivial (by exact hr_)
      · refine blk_nil ?_
        try refine Blk.nx ?_
        have hs_ := ((ev_call (f := (fun (p : (T4 Str Str D D) × Unit) => m_u_law_makes p.1)) (ea_cons (ev_op opx_ixL (fun x y => idx_mild x y) (ev_var (i := 1) (x := log_) rfl) (ev_op opx_ixL (fun x y => idx_mild x y) (ev_var (i := 4) (x := path_) rfl) (ev_var (i := 6) (x := k_) rfl))) ea_nil)) : EvX K (W0 E) [iM roots_, iM log_, iM index_, iM key_, iM path_, oW keys_, iM k_, none, none, none] _ _)
        refine blk_seq (blk_set (i := 7) L2 trivial (by exact hs_) fun made_ => ?_)
        show Blk _ _ _ _ _ [iM roots_, iM log_, iM index_, iM key_, iM path_, oW keys_, iM k_, iM made_, none, none] _
        try refine Blk.nx ?_
        have ht_ := ((et_test (ev_op opx_isN mild_ok (ev_var (i := 7) (x := made_) rfl) ev_non)) : EvT K (W0 E) [iM roots_, iM log_, iM index_, iM key_, iM path_, oW keys_, iM k_, iM made_, none, none] _ _)
        refine blk_seq (blk_if2 L2 trivial (by exact ht_) ?_ ?_)
        · refine blk_freeze 5 rfl ?_
          show Blk _ _ _ _ _ [iM roots_, iM log_, iM index_, iM key_, iM path_, iM keys_, iM k_, iM made_, none, none] _
          have hr_ := ((ev_bl (b := false)) : EvX K (W0 E) [iM roots_, iM log_, iM index_, iM key_, iM path_, iM keys_, iM k_, iM made_, none, none] _ _)
          exact blk_ret L2 trivial (by exact hr_)
        · refine blk_nil ?_
          try refine Blk.nx ?_
          have hs_ := ((ev_ixTC (i := 1) (f := fun (x : (T4 Str Str D D)) => x.b) (ev_op opx_ixL (fun x y => idx_mild x y) (ev_var (i := 1) (x := log_) rfl) (ev_op opx_ixL (fun x y => idx_mild x y) (ev_var (i := 4) (x := path_) rfl) (ev_var (i := 6) (x := k_) rfl))) (fun x => ⟨_, rfl, rfl⟩)) : EvX K (W0 E) [iM roots_, iM log_, iM index_, iM key_, iM path_, oW keys_, iM k_, iM made_, none, none] _ _)
          refine blk_seq (blk_set (i := 8) L2 trivial (by exact hs_) fun author_ => ?_)
          show Blk _ _ _ _ _ [iM roots_, iM log_, iM index_, iM key_, iM path_, oW keys_, iM k_, iM made_, iM author_, none] _
          try refine Blk.nx ?_
          have ht_ := ((et_or (et_and (et_test (ev_op opx_eqI mild_ok (ev_var (i := 6) (x := k_) rfl) (ev_int (i := 0)))) (et_test (ev_op (opx_inS true) mild_ok (ev_var (i := 8) (x := author_) rfl) (ev_var (i := 0) (x := roots_) rfl)))) (et_and (et_test (ev_op (opx_B0 (g := fun i j => decide (j < i))) mild_ok (ev_var (i := 6) (x := k_) rfl) (ev_int (i := 0)))) (et_test (ev_op opx_neS mild_ok (ev_var (i := 8) (x := author_) rfl) (ev_ixO (j := 5) (xs := keys_) rfl (ev_op (opx_I0 (g := fun i j => i - j)) mild_ok (ev_lenO (j := 5) (xs := keys_) rfl) (ev_int (i := 1)))))))) : EvT K (W0 E) [iM roots_, iM log_, iM index_, iM key_, iM path_, oW keys_, iM k_, iM made_, iM author_, none] _ _)
          refine blk_seq (blk_if2 L2 trivial (by exact ht_) ?_ ?_)
          · refine blk_freeze 5 rfl ?_
            show Blk _ _ _ _ _ [iM roots_, iM log_, iM index_, iM key_, iM path_, iM keys_, iM k_, iM made_, iM author_, none] _
            have hr_ := ((ev_bl (b := false)) : EvX K (W0 E) [iM roots_, iM log_, iM index_, iM key_, iM path_, iM keys_, iM k_, iM made_, iM author_, none] _ _)
            exact blk_ret L2 trivial (by exact hr_)
          · refine blk_nil ?_
            try refine Blk.nx ?_
            have ht_ := ((et_test (ev_op opx_eqI mild_ok (ev_var (i := 6) (x := k_) rfl) (ev_int (i := 0)))) : EvT K (W0 E) [iM roots_, iM log_, iM index_, iM key_, iM path_, oW keys_, iM k_, iM made_, iM author_, none] _ _)
            refine blk_seq (blk_ifj (S := (List Str)) (fun keys_ => [iM roots_, iM log_, iM index_, iM key_, iM path_, oW keys_, iM k_, iM made_, iM author_, none]) (m_u_law_due_k6 made_ (m_u_law_due_l2 roots_ log_ index_ path_ (m_u_law_due_k10 log_ index_ key_) r2)) L2 trivial (by exact ht_) ?_ ?_ ?_)
            · intro keys_
              show Blk _ _ _ _ _ [iM roots_, iM log_, iM index_, iM key_, iM path_, oW keys_, iM k_, iM made_, iM author_, none] ((m_u_law_due_k6 made_ (m_u_law_due_l2 roots_ log_ index_ path_ (m_u_law_due_k10 log_ index_ key_) r2)) keys_)
              unfold m_u_law_due_k6
              try refine Blk.nx ?_
              have hs_ := ((ev_castG (f := optGet) optGet_ok optGet_x (ev_var (i := 7) (x := made_) rfl)) : EvX K (W0 E) [iM roots_, iM log_, iM index_, iM key_, iM path_, oW keys_, iM k_, iM made_, iM author_, none] _ _)
              refine blk_app (i := 5) (xs := keys_) L2 trivial rfl (by exact hs_) fun y91 => ?_
              show Blk _ _ _ _ _ [iM roots_, iM log_, iM index_, iM key_, iM path_, oW ((keys_ ++ [y91])), iM k_, iM made_, iM author_, none] ((fun (keys_ : (List Str)) => _) (keys_ ++ [y91]))
              generalize keys_ ++ [y91] = keys_
              show Blk _ _ _ _ _ [iM roots_, iM log_, iM index_, iM key_, iM path_, oW keys_, iM k_, iM made_, iM author_, none] _
              try refine Blk.nx ?_
              exact (hN2 keys_).weak (.same (.same (.same (.same (.same (.same (.drop (.drop (.drop (.same .nil))))))))))
            · intro hk6
              have hs_ := ((ev_var (i := 8) (x := author_) rfl) : EvX K (W0 E) [iM roots_, iM log_, iM index_, iM key_, iM path_, oW keys_, iM k_, iM made_, iM author_, none] _ _)
              refine blk_app (i := 5) (xs := keys_) L2 trivial rfl (by exact hs_) fun y93 => ?_
              show Blk _ _ _ _ _ [iM roots_, iM log_, iM index_, iM key_, iM path_, oW ((keys_ ++ [y93])), iM k_, iM made_, iM author_, none] ((fun (keys_ : (List Str)) => _) (keys_ ++ [y93]))
              generalize keys_ ++ [y93] = keys_
              show Blk _ _ _ _ _ [iM roots_, iM log_, iM index_, iM key_, iM path_, oW keys_, iM k_, iM made_, iM author_, none] _
              try refine Blk.nx ?_
              exact (hk6 keys_).weak (.same (.same (.same (.same (.same (.same (.same (.same (.same (.same .nil))))))))))
            · intro hk6
              refine blk_nil ?_
              try refine Blk.nx ?_
              exact (hk6 keys_).weak (.same (.same (.same (.same (.same (.same (.same (.same (.same (.same .nil))))))))))
    · intro keys_
      show Blk _ _ _ _ _ [iM roots_, iM log_, iM index_, iM key_, iM path_, oW keys_, none, none, none, none] ((m_u_law_due_k10 log_ index_ key_) keys_)
      unfold m_u_law_due_k10
      try refine Blk.nx ?_
      refine blk_freeze 5 rfl ?_
      show Blk _ _ _ _ _ [iM roots_, iM log_, iM index_, iM key_, iM path_, iM keys_, none, none, none, none] _
      have ht_ := ((et_test (ev_op opx_neS mild_ok (ev_op opx_ixL (fun x y => idx_mild x y) (ev_var (i := 5) (x := keys_) rfl) (ev_op (opx_I0 (g := fun i j => i - j)) mild_ok (ev_cb cx_len (fun _ _ h => nomatch h) (ea_cons (ev_var (i := 5) (x := keys_) rfl) ea_nil)) (ev_int (i := 1)))) (ev_var (i := 3) (x := key_) rfl))) : EvT K (W0 E) [iM roots_, iM log_, iM index_, iM key_, iM path_, iM keys_, none, none, none, none] _ _)
      refine blk_seq (blk_if2 L trivial (by exact ht_) ?_ ?_)
      · have hr_ := ((ev_bl (b := false)) : EvX K (W0 E) [iM roots_, iM log_, iM index_, iM key_, iM path_, iM keys_, none, none, none, none] _ _)
        exact blk_ret L trivial (by exact hr_)
      · refine blk_nil ?_
        try refine Blk.nx ?_
        have hi_ := ((ei_list (ev_ofN (en_sliceV (ev_var (i := 1) (x := log_) rfl) ept_none (ept_some (ev_var (i := 2) (x := index_) rfl))))) : EvI K (W0 E) [iM roots_, iM log_, iM index_, iM key_, iM path_, iM keys_, none, none, none, none] _ _)
        refine blk_seq (blk_for (S := Unit) (m_u_law_due_l8 keys_ (m_u_law_due_k9)) (m_u_law_due_k9) (fun _ => [iM roots_, iM log_, iM index_, iM key_, iM path_, iM keys_, none, none, none, none]) () L trivial (by exact hi_) (fun _ => gx_name) (.same (.same (.same (.same (.same (.same (.same (.same (.same (.same .nil)))))))))) (fun _ => rfl) ?_ ?_)
        · intro F8 L8 hB8 x97 r8 s_ N_ hN8
          obtain ⟨⟩ := s_
          show Blk _ _ _ _ _ [iM roots_, iM log_, iM index_, iM key_, iM path_, iM keys_, none, none, none, iM x97] (m_u_law_due_l8 keys_ (m_u_law_due_k9) (x97 :: r8) ())
          rw [m_u_law_due_l8]
          show Blk _ _ _ _ _ _ ((fun (entry_ : (T4 Str Str D D)) => _) x97)
          generalize x97 = entry_
          show Blk _ _ _ _ _ [iM roots_, iM log_, iM index_, iM key_, iM path_, iM keys_, none, none, none, iM entry_] _
          have ht_ := ((et_and (et_B (ev_isi isi_tuple (ev_var (i := 9) (x := entry_) rfl))) (et_and (et_test (ev_op opx_eqI mild_ok (ev_cb (cx_lenT (n := 4) fun _ => ⟨_, rfl, rfl⟩) (fun _ _ h => nomatch h) (ea_cons (ev_var (i := 9) (x := entry_) rfl) ea_nil)) (ev_int (i := 4)))) (et_and (et_test (ev_op opx_eqS mild_ok (ev_ixTC (i := 0) (f := fun (x : (T4 Str Str D D)) => x.a) (ev_var (i := 9) (x := entry_) rfl) (fun x => ⟨_, rfl, rfl⟩)) (ev_str (x := "withdraw")))) (et_test (ev_op (opx_inS false) mild_ok (ev_cast (f := D.asStr) asStr_ok asStr_x (ev_op opx_ixT (fun x y => idx_mild x.xs y) (ev_cast (f := D.asTu) asTu_ok asTu_x (ev_ixTC (i := 2) (f := fun (x : (T4 Str Str D D)) => x.c) (ev_var (i := 9) (x := entry_) rfl) (fun x => ⟨_, rfl, rfl⟩))) (ev_int (i := 0)))) (ev_var (i := 5) (x := keys_) rfl)))))) : EvT K (W0 E) [iM roots_, iM log_, iM index_, iM key_, iM path_, iM keys_, none, none, none, iM entry_] _ _)
          refine blk_if2 L8 trivial (by exact ht_) ?_ ?_
          · have hr_ := ((ev_bl (b := false)) : EvX K (W0 E) [iM roots_, iM log_, iM index_, iM key_, iM path_, iM keys_, none, none, none, iM entry_] _ _)
            exact blk_ret L8 trivial (by exact hr_)
          · refine blk_nil ?_
            try refine Blk.nx ?_
            exact (hN8 ()).weak (.same (.same (.same (.same (.same (.same (.same (.same (.same (.drop .nil))))))))))
        · intro _
          show Blk _ _ _ _ _ [iM roots_, iM log_, iM index_, iM key_, iM path_, iM keys_, none, none, none, none] ((m_u_law_due_k9) ())
          unfold m_u_law_due_k9
          try refine Blk.nx ?_
          have hr_ := ((ev_bl (b := true)) : EvX K (W0 E) [iM roots_, iM log_, iM index_, iM key_, iM path_, iM keys_, none, none, none, none] _ _)
          exact blk_ret L trivial (by exact hr_)
  · intro hk1
    have ht_ := ((et_test (ev_op (opx_inS true) mild_ok (ev_var (i := 3) (x := key_) rfl) (ev_var (i := 0) (x := roots_) rfl))) : EvT K (W0 E) [iM roots_, iM log_, iM index_, iM key_, iM path_, oW keys_, none, none, none, none] _ _)
    refine blk_seq (blk_if2 L trivial (by exact ht_) ?_ ?_)
    · refine blk_freeze 5 rfl ?_
      show Blk _ _ _ _ _ [iM roots_, iM log_, iM index_, iM key_, iM path_, iM keys_, none, none, none, none] _
      have hr_ := ((ev_bl (b := false)) : EvX K (W0 E) [iM roots_, iM log_, iM index_, iM key_, iM path_, iM keys_, none, none, none, none] _ _)
      exact blk_ret L trivial (by exact hr_)
    · refine blk_nil ?_
      try refine Blk.nx ?_
      have hs_ := ((en_lst (f := (fun y => ([y.1] : List Str))) (ea_cons (ev_var (i := 3) (x := key_) rfl) ea_nil) (fun _ => rfl) (fun _ => by show 1 ≤ 100000; decide)) : EvN K (W0 E) [iM roots_, iM log_, iM index_, iM key_, iM path_, oW keys_, none, none, none, none] _ _)
      refine blk_own (i := 5) L trivial (by exact hs_) fun keys_ => ?_
      show Blk _ _ _ _ _ [iM roots_, iM log_, iM index_, iM key_, iM path_, oW keys_, none, none, none, none] _
      try refine Blk.nx ?_
      exact (hk1 keys_).weak (.same (.same (.same (.same (.same (.same (.same (.same (.same (.same .nil))))))))))
  · intro hk1
    refine blk_nil ?_
    try refine Blk.nx ?_
    exact (hk1 keys_).weak (.same (.same (.same (.same (.same (.same (.same (.same (.same (.same .nil))))))))))
noncomputable def m_law_l1 (script_ : (Ro Int)) (log_ : (List (T4 Str Str D D))) (roots_ : (List Str)) (given_ : (List D)) (k1 : Unit → Res Bool) : List Int → Unit → Res Bool
  | [], s => k1 s
  | x118 :: r1, _ =>   (fun (k_ : Int) => (((m_u_law_cell script_ ((22 : Int) + k_)).bind fun a119 => Res.ok (a119, ())).bind fun p121 => Res.ok (Int.natAbs p121.1 : Int)).bind fun (cell_ : Int) =>   (((((Res.need (0 < (((log_).length : Int) + (1 : Int))) (Res.ok ((cell_ / (11 : Int)) % (((log_).length : Int) + (1 : Int))))).bind fun a122 => Res.ok (a122, ())).bind fun a125 => Res.ok (((log_).length : Int), a125)).bind fun p126 => Res.ok ([p126.1, p126.2.1] : List Int)).bind fun (t127 : (List Int)) => idx t127 (cell_ % (2 : Int))).bind fun (index_ : Int) =>   (m_u_law_key (cell_ / (300 : Int))).bind fun (key_ : Str) =>   ((((((Res.ok none).bind fun (lo128 : Option Int) => (Res.ok (some index_)).bind fun (hi129 : Option Int) => Res.ok (cutL log_ lo128 hi129)).bind fun a130 => Res.ok (a130, (key_, (roots_, ())))).bind fun p132 => m_u_law_lead p132.1 p132.2.1 p132.2.2.1).bind fun a133 => Res.ok (a133, ((cell_ / (3000 : Int)), ()))).bind fun p135 => m_u_law_changed p135.1 p135.2.1).bind fun (path_ : (List Int)) =>   ((((idx given_ (1 : Int)).bind D.asStrs).bind fun a138 => (((idx given_ (0 : Int)).bind D.asS2s).bind fun a136 => Res.ok (a136, (index_, (key_, (path_, ()))))).bind fun a139 => Res.ok (a138, a139)).bind fun p140 => m_good_path p140.1 p140.2.1 p140.2.2.1 p140.2.2.2.1 p140.2.2.2.2.1).bind fun (found_ : Bool) =>   (((Res.need ((toD found_).plain = true) (Res.ok (isI "bool" (toD found_)))).bind fun (t141 : Bool) => Res.ok (!t141)).bind fun b143 => cond b143 (Res.ok true) ((m_u_law_due roots_ log_ index_ key_ path_).bind fun (t142 : Bool) => Res.ok (!(found_ == t142)))).bind fun b => cond b   ((Res.ok false))   (m_law_l1 script_ log_ roots_ given_ k1 r1 ())) x118
noncomputable def m_law_l4 (log_ : (List (T4 Str Str D D))) (other_ : (List (T4 Str Str D D))) (k4 : Int → Res Bool) : List Int → Int → Res Bool
  | [], s => k4 s
  | x148 :: r4, due_ =>   (fun (k_ : Int) => ((idx log_ k_).bind fun (t149 : (T4 Str Str D D)) => (idx other_ k_).bind fun (t150 : (T4 Str Str D D)) => Res.need ((toD t149).okq = true ∧ (toD t150).okq = true) (Res.ok (!pyEq (toD t149) (toD t150)))).bind fun b => cond b   (k4 due_)   (((Res.ok (due_ + (1 : Int)))).bind fun (due_ : Int) =>   m_law_l4 log_ other_ k4 r4 due_)) x148
noncomputable def m_law_k6 (log_ : (List (T4 Str Str D D))) (other_ : (List (T4 Str Str D D))) (at_ : Int) : Int → Res Bool := fun due_ =>   (((((Res.need (other_.length + log_.length ≤ 16777216) (Res.ok (other_ ++ log_))).bind fun a151 => Res.ok (a151, ())).bind fun a154 => Res.ok (log_, a154)).bind fun p155 => m_common_beginning p155.1 p155.2.1).bind fun (t156 : Int) => Res.ok (decide (t156 = due_))).bind fun b163 => cond b163 (Res.ok true) (cond (decide (((log_).length : Int) ≤ at_)) (((((Res.need (other_.length + log_.length ≤ 16777216) (Res.ok (other_ ++ log_))).bind fun a157 => Res.ok (a157, ())).bind fun a160 => Res.ok (log_, a160)).bind fun p161 => m_common_beginning p161.1 p161.2.1).bind fun (t162 : Int) => Res.ok (decide (t162 = ((log_).length : Int)))) (Res.ok false))
noncomputable def m_law_k3 (log_ : (List (T4 Str Str D D))) (at_ : Int) : (List (T4 Str Str D D)) → Res Bool := fun other_ =>   ((Res.ok (0 : Int))).bind fun (due_ : Int) =>   (Res.need (okRange (min ((log_).length : Int) ((other_).length : Int))) (Res.ok (pyRange 0 (min ((log_).length : Int) ((other_).length : Int))))).bind fun (xs164 : List Int) => m_law_l4 log_ other_ (m_law_k6 log_ other_ at_) xs164 due_
noncomputable def m_law_k7 (log_ : (List (T4 Str Str D D))) (at_ : Int) : (List (T4 Str Str D D)) → Res Bool := fun other_ =>   (m_law_k3 log_ at_) other_
noncomputable def m_law_k8 (script_ : (Ro Int)) (log_ : (List (T4 Str Str D D))) (roots_ : (List Str)) (given_ : (List D)) : Unit → Res Bool := fun _ =>   (Res.need ((toD given_).okq = true ∧ (toD ([(toD log_), (toD roots_)] : List D)).okq = true) (Res.ok (!pyEq (toD given_) (toD ([(toD log_), (toD roots_)] : List D))))).bind fun b => cond b   ((Res.ok false))   (((Res.ok log_)).bind fun (other_ : (List (T4 Str Str D D))) =>   ((((m_u_law_cell script_ (30 : Int)).bind fun a144 => Res.ok (a144, ())).bind fun p146 => Res.ok (Int.natAbs p146.1 : Int)).bind fun (t147 : Int) => Res.ok (t147 % (21 : Int))).bind fun (at_ : Int) =>   ((Res.ok (decide (at_ < (other_.length : Int))))).bind fun b => cond b   (((Res.ok (T4.mk ("state" : Str) ("k0" : Str) (toD (T1.mk (T2.mk (9 : Int) (9 : Int)))) (toD (T0.mk ))))).bind fun (y165 : (T4 Str Str D D)) => ((Res.ok at_)).bind fun (j166 : Int) => match ixN other_.length j166 with | some a167 => (m_law_k7 log_ at_) (other_.set a167 y165) | none => Res.stuck)   ((m_law_k3 log_ at_) other_))
noncomputable def m_law (script_ : (Ro Int)) : Res Bool :=
  ((((m_u_law_cell script_ (0 : Int)).bind fun (t103 : Int) => Res.ok (t103 % (21 : Int))).bind fun (t104 : Int) => Res.need (okRange t104) (Res.ok (pyRange 0 t104))).bind fun (xs112 : List Int) => Res.need (xs112.length ≤ 16777216) (compL (fun (x105 : Int) => Res.ok true) (fun (x105 : Int) => (((((m_u_law_cell script_ ((1 : Int) + x105)).noexc).bind fun a106 => Res.ok (a106, ())).bind fun p108 => Res.ok (Int.natAbs p108.1 : Int)).bind fun a109 => Res.ok (a109, ())).bind fun p111 => (m_u_law_entry p111.1).noexc) xs112)).bind fun (log_ : (List (T4 Str Str D D))) =>   (((((m_u_law_cell script_ (21 : Int)).bind fun (t113 : Int) => Res.ok (t113 % (3 : Int))).bind fun (t114 : Int) => Res.ok ((1 : Int) + t114)).bind fun (t115 : Int) => Res.need (okRange t115) (Res.ok (pyRange 0 t115))).bind fun (xs117 : List Int) => Res.need (xs117.length ≤ 16777216) (compL (fun (x116 : Int) => Res.ok true) (fun (x116 : Int) => (m_u_law_key x116).noexc) xs117)).bind fun (roots_ : (List Str)) =>   ((Res.ok ([(toD log_), (toD roots_)] : List D))).bind fun (given_ : (List D)) =>   (Res.need (okRange (8 : Int)) (Res.ok (pyRange 0 (8 : Int)))).bind fun (xs168 : List Int) => m_law_l1 script_ log_ roots_ given_ (m_law_k8 script_ log_ roots_ given_) xs168 ()
theorem ok_law {P : Program} {w : World} {K : PySem.W.Frag} {mg : Str → Option Value} {base : Heap} (T : Facts P w K mg) {fd : FuncData} (F : FnP K "law" "law" s_law (He.ga K "law") fd) :
    FnOk P w K mg base (L2.CX P w) 3 (He.ga K "law") fd ["script"] (spM K (fun (p : (Ro Int) × Unit) => m_law p.1)) := by
  obtain ⟨fd_u_law_cell, F_u_law_cell⟩ := T.d_u_law_cell
  have G_u_law_cell := ok_u_law_cell (P := P) (w := w) (base := base) T F_u_law_cell
  have b_u_law_cell : Binds K fd_u_law_cell ["script", "k"] [] := F_u_law_cell.bindsN fun _ _ _ _ _ _ us hl => match us, hl with | [_, _], _ => rfl
  obtain ⟨fd_u_law_changed, F_u_law_changed⟩ := T.d_u_law_changed
  have G_u_law_changed := ok_u_law_changed (P := P) (w := w) (base := base) T F_u_law_changed
  have b_u_law_changed : Binds K fd_u_law_changed ["path", "cell"] [] := F_u_law_changed.bindsN fun _ _ _ _ _ _ us hl => match us, hl with | [_, _], _ => rfl
  obtain ⟨fd_u_law_due, F_u_law_due⟩ := T.d_u_law_due
  have G_u_law_due := ok_u_law_due (P := P) (w := w) (base := base) T F_u_law_due
  have b_u_law_due : Binds K fd_u_law_due ["roots", "log", "index", "key", "path"] [] := F_u_law_due.bindsN fun _ _ _ _ _ _ us hl => match us, hl with | [_, _, _, _, _], _ => rfl
  obtain ⟨fd_u_law_entry, F_u_law_entry⟩ := T.d_u_law_entry
  have G_u_law_entry := ok_u_law_entry (P := P) (w := w) (base := base) T F_u_law_entry
  have b_u_law_entry : Binds K fd_u_law_entry ["cell"] [] := F_u_law_entry.bindsN fun _ _ _ _ _ _ us hl => match us, hl with | [_], _ => rfl
  obtain ⟨fd_u_law_key, F_u_law_key⟩ := T.d_u_law_key
  have G_u_law_key := ok_u_law_key (P := P) (w := w) (base := base) T F_u_law_key
  have b_u_law_key : Binds K fd_u_law_key ["number"] [] := F_u_law_key.bindsN fun _ _ _ _ _ _ us hl => match us, hl with | [_], _ => rfl
  obtain ⟨fd_u_law_lead, F_u_law_lead⟩ := T.d_u_law_lead
  have G_u_law_lead := ok_u_law_lead (P := P) (w := w) (base := base) T F_u_law_lead
  have b_u_law_lead : Binds K fd_u_law_lead ["log", "key", "roots"] [] := F_u_law_lead.bindsN fun _ _ _ _ _ _ us hl => match us, hl with | [_, _, _], _ => rfl
  obtain ⟨fd_common_beginning, F_common_beginning⟩ := T.d_common_beginning
  have G_common_beginning := ok_common_beginning (P := P) (w := w) (base := base) T F_common_beginning
  have b_common_beginning : Binds K fd_common_beginning ["first", "second"] [] := F_common_beginning.bindsN fun _ _ _ _ _ _ us hl => match us, hl with | [_, _], _ => rfl
  obtain ⟨fd_good_path, F_good_path⟩ := T.d_good_path
  have G_good_path := ok_good_path (P := P) (w := w) (base := base) T F_good_path
  have b_good_path : Binds K fd_good_path ["roots", "log", "index", "key", "path"] [] := F_good_path.bindsN fun _ _ _ _ _ _ us hl => match us, hl with | [_, _, _, _, _], _ => rfl
  refine fn_ok F sc_law (fun y => rfl) (fun cdv A outer s H E hr => ?_)
  refine ⟨_, (pss_cons (ps_setLc (i := 1) (own := [("k", 4)]) rfl sc_law.nd rfl rfl (sw_true rfl rfl rfl (by decide +kernel)) (pi_range1 rfl T.n_range (pa_cons (pe_op op_mod (pe_callS G_u_law_cell (hr.mono (by decide)) rfl T.g_u_law_cell F_u_law_cell.kp b_u_law_cell (fun σ => passAt (takes_of rfl rfl rfl rfl) σ) (pa_cons (pv 0) (pa_cons pe_int pa_nil))) pe_int) pa_nil)) (blkOk_by (own := [("k", 4)]) (N := ["script", "log", "roots", "given", "k", "cell", "index", "key", "path", "found", "other", "at", "due"]) (sc := defScope s_law) (by decide +kernel)) (fun _ _ _ _ _ => (pg_name (i := 4) sc_law.nd rfl (Or.inl rfl))) (fun _ _ _ _ _ => pts_nil) (fun _ _ _ _ _ => (pe_call G_u_law_entry (hr.mono (by decide)) rfl T.g_u_law_entry F_u_law_entry.kp b_u_law_entry .nil passL (pa_cons (pe_callB call_abs (by rfl) T.n_abs (by decide +kernel) (pa_cons (pe_call G_u_law_cell (hr.mono (by decide)) rfl T.g_u_law_cell F_u_law_cell.kp b_u_law_cell .nil passL (pa_cons (pv 0) (pa_cons (pe_op op_add pe_int (pv 4)) pa_nil))) pa_nil)) pa_nil)))) (pss_cons (ps_setLc (i := 2) (own := [("k", 4)]) rfl sc_law.nd rfl rfl (sw_true rfl rfl rfl (by decide +kernel)) (pi_range1 rfl T.n_range (pa_cons (pe_op op_add pe_int (pe_op op_mod (pe_callS G_u_law_cell (hr.mono (by decide)) rfl T.g_u_law_cell F_u_law_cell.kp b_u_law_cell (fun σ => passAt (takes_of rfl rfl rfl rfl) σ) (pa_cons (pv 0) (pa_cons pe_int pa_nil))) pe_int)) pa_nil)) (blkOk_by (own := [("k", 4)]) (N := ["script", "log", "roots", "given", "k", "cell", "index", "key", "path", "found", "other", "at", "due"]) (sc := defScope s_law) (by decide +kernel)) (fun _ _ _ _ _ => (pg_name (i := 4) sc_law.nd rfl (Or.inl rfl))) (fun _ _ _ _ _ => pts_nil) (fun _ _ _ _ _ => (pe_call G_u_law_key (hr.mono (by decide)) rfl T.g_u_law_key F_u_law_key.kp b_u_law_key .nil passL (pa_cons (pv 4) pa_nil)))) (pss_cons (ps_set (i := 3) sc_law.nd rfl (Or.inl rfl) (pe_lst (pa_cons (pe_callTy (T := "list") (cr_listof rfl) (by rfl) T.n_list (by decide +kernel) (pa_cons (pv 1) pa_nil)) (pa_cons (pe_callTy (T := "list") (cr_listof rfl) (by rfl) T.n_list (by decide +kernel) (pa_cons (pv 2) pa_nil)) pa_nil)))) (pss_cons (ps_for (passes_of rfl) rfl (pi_range1 rfl T.n_range (pa_cons pe_int pa_nil)) (pg_name (i := 4) sc_law.nd rfl (Or.inl rfl)) (pss_cons (ps_set (i := 5) sc_law.nd rfl (Or.inl rfl) (pe_callB call_abs (by rfl) T.n_abs (by decide +kernel) (pa_cons (pe_callS G_u_law_cell (hr.mono (by decide)) rfl T.g_u_law_cell F_u_law_cell.kp b_u_law_cell (fun σ => passAt (takes_of rfl rfl rfl rfl) σ) (pa_cons (pv 0) (pa_cons (pe_op op_add pe_int (pv 4)) pa_nil))) pa_nil))) (pss_cons (ps_set (i := 6) sc_law.nd rfl (Or.inl rfl) (pe_ix (cr_ixL rfl) (pe_lst (pa_cons (pe_callB (cr_len rfl) (by rfl) T.n_len (by decide +kernel) (pa_cons (pv 1) pa_nil)) (pa_cons (pe_op op_mod (pe_op op_fdiv (pv 5) pe_int) (pe_op op_add (pe_callB (cr_len rfl) (by rfl) T.n_len (by decide +kernel) (pa_cons (pv 1) pa_nil)) pe_int)) pa_nil))) (pe_op op_mod (pv 5) pe_int) (fun _ _ => rfl))) (pss_cons (ps_set (i := 7) sc_law.nd rfl (Or.inl rfl) (pe_callS G_u_law_key (hr.mono (by decide)) rfl T.g_u_law_key F_u_law_key.kp b_u_law_key (fun σ => passAt (takes_of rfl rfl rfl rfl) σ) (pa_cons (pe_op op_fdiv (pv 5) pe_int) pa_nil))) (pss_cons (ps_set (i := 8) sc_law.nd rfl (Or.inl rfl) (pe_callS G_u_law_changed (hr.mono (by decide)) rfl T.g_u_law_changed F_u_law_changed.kp b_u_law_changed (fun σ => passAt (takes_of rfl rfl rfl rfl) σ) (pa_cons (pe_callS G_u_law_lead (hr.mono (by decide)) rfl T.g_u_law_lead F_u_law_lead.kp b_u_law_lead (fun σ => passAt (takes_of rfl rfl rfl rfl) σ) (pa_cons (pe_slice (cr_slL rfl) (pv 1) po_none (po_some (pv 6))) (pa_cons (pv 7) (pa_cons (pv 2) pa_nil)))) (pa_cons (pe_op op_fdiv (pv 5) pe_int) pa_nil)))) (pss_cons (ps_set (i := 9) sc_law.nd rfl (Or.inl rfl) (pe_callS G_good_path (hr.mono (by decide)) rfl T.g_good_path F_good_path.kp b_good_path (fun σ => passAt (takes_of rfl rfl rfl rfl) σ) (pa_cons (pe_ix (cr_ixL rfl) (pv 3) pe_int (fun _ _ => rfl)) (pa_cons (pe_ix (cr_ixL rfl) (pv 3) pe_int (fun _ _ => rfl)) (pa_cons (pv 6) (pa_cons (pv 7) (pa_cons (pe_callTy (T := "list") (cr_listof rfl) (by rfl) T.n_list (by decide +kernel) (pa_cons (pv 8) pa_nil)) pa_nil))))))) (pss_one (ps_if (PW.pt (pw_or (pt_not (pt_val (pe_callB call_isi (by rfl) T.n_isinstance (by decide +kernel) (pa_cons (pv 9) (pa_cons (pe_bltn (v := .ty "bool") (by rfl) T.n_bool (by decide +kernel) rfl) pa_nil))))) (pw_or1 (pt_cmpR op_ne (pv 9) (pe_callS G_u_law_due (hr.mono (by decide)) rfl T.g_u_law_due F_u_law_due.kp b_u_law_due (fun σ => passAt (takes_of rfl rfl rfl rfl) σ) (pa_cons (pv 2) (pa_cons (pv 1) (pa_cons (pv 6) (pa_cons (pv 7) (pa_cons (pv 8) pa_nil)))))) (nomark _))))) (pss_one (ps_ret pe_bl)) pss_nil)))))))) (pss_cons (ps_if (pt_cmpR (op_neD (Room.units hr)) (pv 3) (pe_lst (pa_cons (pv 1) (pa_cons (pv 2) pa_nil))) (nomark _)) (pss_one (ps_ret pe_bl)) pss_nil) (pss_cons (ps_set (i := 10) sc_law.nd rfl (Or.inl rfl) (pe_callTy (T := "list") (cr_listof rfl) (by rfl) T.n_list (by decide +kernel) (pa_cons (pv 1) pa_nil))) (pss_cons (ps_set (i := 11) sc_law.nd rfl (Or.inl rfl) (pe_op op_mod (pe_callB call_abs (by rfl) T.n_abs (by decide +kernel) (pa_cons (pe_callS G_u_law_cell (hr.mono (by decide)) rfl T.g_u_law_cell F_u_law_cell.kp b_u_law_cell (fun σ => passAt (takes_of rfl rfl rfl rfl) σ) (pa_cons (pv 0) (pa_cons pe_int pa_nil))) pa_nil)) pe_int)) (pss_cons (ps_if (pt_cmpR op_lt (pv 11) (pe_callB (cr_len rfl) (by rfl) T.n_len (by decide +kernel) (pa_cons (pv 10) pa_nil)) (nomark _)) (pss_one (ps_asg (pe_tup (pa_cons pe_str (pa_cons pe_str (pa_cons (pe_tup (pa_cons (pe_tup (pa_cons pe_int (pa_cons pe_int pa_nil))) pa_nil)) (pa_cons (pe_tup pa_nil) pa_nil))))) (pg_sub (pv 10) (pv 11) set_list))) pss_nil) (pss_cons (ps_set (i := 12) sc_law.nd rfl (Or.inl rfl) pe_int) (pss_cons (ps_for (passes_of rfl) rfl (pi_range1 rfl T.n_range (pa_cons (pe_callB (call_min2 rfl) (by rfl) T.n_min (by decide +kernel) (pa_cons (pe_callB (cr_len rfl) (by rfl) T.n_len (by decide +kernel) (pa_cons (pv 1) pa_nil)) (pa_cons (pe_callB (cr_len rfl) (by rfl) T.n_len (by decide +kernel) (pa_cons (pv 10) pa_nil)) pa_nil))) pa_nil)) (pg_name (i := 4) sc_law.nd rfl (Or.inl rfl)) (pss_cons (ps_if (pt_cmpR (op_neD (Room.units hr)) (pe_ix (cr_ixL rfl) (pv 1) (pv 4) (fun _ _ => rfl)) (pe_ix (cr_ixL rfl) (pv 10) (pv 4) (fun _ _ => rfl)) (nomark _)) (pss_one ps_break) pss_nil) (pss_one (ps_set (i := 12) sc_law.nd rfl (Or.inl rfl) (pe_op op_add (pv 12) pe_int))))) (pss_one (ps_ret (pe_or (pe_cmpR op_eq (pe_callS G_common_beginning (hr.mono (by decide)) rfl T.g_common_beginning F_common_beginning.kp b_common_beginning (fun σ => passAt (takes_of rfl rfl rfl rfl) σ) (pa_cons (pv 1) (pa_cons (pe_op op_cat (pv 10) (pv 1)) pa_nil))) (pv 12) (nomark _)) (pe_one (pe_and (pe_cmpR op_ge (pv 11) (pe_callB (cr_len rfl) (by rfl) T.n_len (by decide +kernel) (pa_cons (pv 1) pa_nil)) (nomark _)) (pe_one (pe_cmpR op_eq (pe_callS G_common_beginning (hr.mono (by decide)) rfl T.g_common_beginning F_common_beginning.kp b_common_beginning (fun σ => passAt (takes_of rfl rfl rfl rfl) σ) (pa_cons (pv 1) (pa_cons (pe_op op_cat (pv 10) (pv 1)) pa_nil))) (pe_callB (cr_len rfl) (by rfl) T.n_len (by decide +kernel) (pa_cons (pv 1) pa_nil)) (nomark _)))))))))))))))))), ?_⟩
  rintro ⟨script_, ⟨⟩⟩ F0 H0 Q KP L
  show Blk K F0 H0 KP _ [iM script_, none, none, none, none, none, none, none, none, none, none, none, none] (m_law script_)
  unfold m_law
  have hs_ := ((ev_ofN (ev_comp (tst := fun (x105 : Int) => Res.ok true) (el := fun (x105 : Int) => (((((m_u_law_cell script_ ((1 : Int) + x105)).noexc).bind fun a106 => Res.ok (a106, ())).bind fun p108 => Res.ok (Int.natAbs p108.1 : Int)).bind fun a109 => Res.ok (a109, ())).bind fun p111 => (m_u_law_entry p111.1).noexc) (ws := [4]) (ei_range1 (ev_opI (C := (fun _ j => 0 < j)) (g := fun i j => i % j) (fun x y _ h => by cases h; (show (0 : Int) < _; decide)) (ev_call (f := (fun (p : (Ro Int) × Int × Unit) => m_u_law_cell p.1 p.2.1)) (ea_cons (ev_var (i := 0) (x := script_) rfl) (ea_cons (ev_int (i := 0)) ea_nil))) (ev_int (i := 21)))) (fun _ => gx_name) (fun x105 => et_yes) (fun x105 => ((ev_call0 (f := (fun (p : Int × Unit) => m_u_law_entry p.1)) (ea_cons (ev_cb cx_abs (fun _ _ h => nomatch h) (ea_cons (ev_call0 (f := (fun (p : (Ro Int) × Int × Unit) => m_u_law_cell p.1 p.2.1)) (ea_cons (ev_var (i := 0) (x := script_) rfl) (ea_cons (ev_op (opx_I0 (g := fun i j => i + j)) mild_ok (ev_int (i := 1)) (ev_var (i := 4) (x := x105) rfl)) ea_nil))) ea_nil)) ea_nil)) : EvX K WT [iM script_, none, none, none, iM x105, none, none, none, none, none, none, none, none] _ _)))) : EvX K (W0 E) [iM script_, none, none, none, none, none, none, none, none, none, none, none, none] _ _)
  refine blk_seq (blk_set (i := 1) L trivial (by exact hs_) fun log_ => ?_)
  show Blk _ _ _ _ _ [iM script_, iM log_, none, none, none, none, none, none, none, none, none, none, none] _
  try refine Blk.nx ?_
  have hs_ := ((ev_ofN (ev_comp (tst := fun (x116 : Int) => Res.ok true) (el := fun (x116 : Int) => (m_u_law_key x116).noexc) (ws := [4]) (ei_range1 (ev_op (opx_I0 (g := fun i j => i + j)) mild_ok (ev_int (i := 1)) (ev_opI (C := (fun _ j => 0 < j)) (g := fun i j => i % j) (fun x y _ h => by cases h; (show (0 : Int) < _; decide)) (ev_call (f := (fun (p : (Ro Int) × Int × Unit) => m_u_law_cell p.1 p.2.1)) (ea_cons (ev_var (i := 0) (x := script_) rfl) (ea_cons (ev_int (i := 21)) ea_nil))) (ev_int (i := 3))))) (fun _ => gx_name) (fun x116 => et_yes) (fun x116 => ((ev_call0 (f := (fun (p : Int × Unit) => m_u_law_key p.1)) (ea_cons (ev_var (i := 4) (x := x116) rfl) ea_nil)) : EvX K WT [iM script_, iM log_, none, none, iM x116, none, none, none, none, none, none, none, none] _ _)))) : EvX K (W0 E) [iM script_, iM log_, none, none, none, none, none, none, none, none, none, none, none] _ _)
  refine blk_seq (blk_set (i := 2) L trivial (by exact hs_) fun roots_ => ?_)
  show Blk _ _ _ _ _ [iM script_, iM log_, iM roots_, none, none, none, none, none, none, none, none, none, none] _
  try refine Blk.nx ?_
  have hs_ := ((ev_ofN (en_lst (f := (fun y => ([y.1, y.2.1] : List D))) (ea_cons (ev_as (ev_ofN (en_list (ev_var (i := 1) (x := log_) rfl))) toD (fun _ => rfl) rfl) (ea_cons (ev_as (ev_ofN (en_list (ev_var (i := 2) (x := roots_) rfl))) toD (fun _ => rfl) rfl) ea_nil)) (fun _ => rfl) (fun _ => by show 2 ≤ 100000; decide))) : EvX K (W0 E) [iM script_, iM log_, iM roots_, none, none, none, none, none, none, none, none, none, none] _ _)
  refine blk_seq (blk_set (i := 3) L trivial (by exact hs_) fun given_ => ?_)
  show Blk _ _ _ _ _ [iM script_, iM log_, iM roots_, iM given_, none, none, none, none, none, none, none, none, none] _
  try refine Blk.nx ?_
  have hi_ := ((ei_range1 (ev_int (i := 8))) : EvI K (W0 E) [iM script_, iM log_, iM roots_, iM given_, none, none, none, none, none, none, none, none, none] _ _)
  refine blk_seq (blk_for (S := Unit) (m_law_l1 script_ log_ roots_ given_ (m_law_k8 script_ log_ roots_ given_)) (m_law_k8 script_ log_ roots_ given_) (fun _ => [iM script_, iM log_, iM roots_, iM given_, none, none, none, none, none, none, none, none, none]) () L trivial (by exact hi_) (fun _ => gx_name) (.same (.same (.same (.same (.same (.same (.same (.same (.same (.same (.same (.same (.same .nil))))))))))))) (fun _ => rfl) ?_ ?_)
  · intro F1 L1 hB1 x118 r1 s_ N_ hN1
    obtain ⟨⟩ := s_
    show Blk _ _ _ _ _ [iM script_, iM log_, iM roots_, iM given_, iM x118, none, none, none, none, none, none, none, none] (m_law_l1 script_ log_ roots_ given_ (m_law_k8 script_ log_ roots_ given_) (x118 :: r1) ())
    rw [m_law_l1]
    show Blk _ _ _ _ _ _ ((fun (k_ : Int) => _) x118)
    generalize x118 = k_
    show Blk _ _ _ _ _ [iM script_, iM log_, iM roots_, iM given_, iM k_, none, none, none, none, none, none, none, none] _
    have hs_ := ((ev_cb cx_abs (fun _ _ h => nomatch h) (ea_cons (ev_call (f := (fun (p : (Ro Int) × Int × Unit) => m_u_law_cell p.1 p.2.1)) (ea_cons (ev_var (i := 0) (x := script_) rfl) (ea_cons (ev_op (opx_I0 (g := fun i j => i + j)) mild_ok (ev_int (i := 22)) (ev_var (i := 4) (x := k_) rfl)) ea_nil))) ea_nil)) : EvX K (W0 E) [iM script_, iM log_, iM roots_, iM given_, iM k_, none, none, none, none, none, none, none, none] _ _)
    refine blk_seq (blk_set (i := 5) L1 trivial (by exact hs_) fun cell_ => ?_)
    show Blk _ _ _ _ _ [iM script_, iM log_, iM roots_, iM given_, iM k_, iM cell_, none, none, none, none, none, none, none] _
    try refine Blk.nx ?_
    have hs_ := ((ev_op opx_ixL (fun x y => idx_mild x y) (ev_ofN (en_lst (f := (fun y => ([y.1, y.2.1] : List Int))) (ea_cons (ev_cb cx_len (fun _ _ h => nomatch h) (ea_cons (ev_var (i := 1) (x := log_) rfl) ea_nil)) (ea_cons (ev_op (opx_I (C := (fun _ j => 0 < j)) (g := fun i j => i % j)) mild_need (ev_opI (C := CDiv) (g := fun i j => i / j) (fun x y _ h => by cases h; exact ⟨by decide, by decide⟩) (ev_var (i := 5) (x := cell_) rfl) (ev_int (i := 11))) (ev_op (opx_I0 (g := fun i j => i + j)) mild_ok (ev_cb cx_len (fun _ _ h => nomatch h) (ea_cons (ev_var (i := 1) (x := log_) rfl) ea_nil)) (ev_int (i := 1)))) ea_nil)) (fun _ => rfl) (fun _ => by show 2 ≤ 100000; decide))) (ev_opI (C := (fun _ j => 0 < j)) (g := fun i j => i % j) (fun x y _ h => by cases h; (show (0 : Int) < _; decide)) (ev_var (i := 5) (x := cell_) rfl) (ev_int (i := 2)))) : EvX K (W0 E) [iM script_, iM log_, iM roots_, iM given_, iM k_, iM cell_, none, none, none, none, none, none, none] _ _)
    refine blk_seq (blk_set (i := 6) L1 trivial (by exact hs_) fun index_ => ?_)
    show Blk _ _ _ _ _ [iM script_, iM log_, iM roots_, iM given_, iM k_, iM cell_, iM index_, none, none, none, none, none, none] _
    try refine Blk.nx ?_
    have hs_ := ((ev_call (f := (fun (p : Int × Unit) => m_u_law_key p.1)) (ea_cons (ev_opI (C := CDiv) (g := fun i j => i / j) (fun x y _ h => by cases h; exact ⟨by decide, by decide⟩) (ev_var (i := 5) (x := cell_) rfl) (ev_int (i := 300))) ea_nil)) : EvX K (W0 E) [iM script_, iM log_, iM roots_, iM given_, iM k_, iM cell_, iM index_, none, none, none, none, none, none] _ _)
    refine blk_seq (blk_set (i := 7) L1 trivial (by exact hs_) fun key_ => ?_)
    show Blk _ _ _ _ _ [iM script_, iM log_, iM roots_, iM given_, iM k_, iM cell_, iM index_, iM key_, none, none, none, none, none] _
    try refine Blk.nx ?_
    have hs_ := ((ev_call (f := (fun (p : (List Int) × Int × Unit) => m_u_law_changed p.1 p.2.1)) (ea_cons (ev_call (f := (fun (p : (List (T4 Str Str D D)) × Str × (List Str) × Unit) => m_u_law_lead p.1 p.2.1 p.2.2.1)) (ea_cons (ev_ofN (en_sliceV (ev_var (i := 1) (x := log_) rfl) ept_none (ept_some (ev_var (i := 6) (x := index_) rfl)))) (ea_cons (ev_var (i := 7) (x := key_) rfl) (ea_cons (ev_var (i := 2) (x := roots_) rfl) ea_nil)))) (ea_cons (ev_opI (C := CDiv) (g := fun i j => i / j) (fun x y _ h => by cases h; exact ⟨by decide, by decide⟩) (ev_var (i := 5) (x := cell_) rfl) (ev_int (i := 3000))) ea_nil))) : EvX K (W0 E) [iM script_, iM log_, iM roots_, iM given_, iM k_, iM cell_, iM index_, iM key_, none, none, none, none, none] _ _)
    refine blk_seq (blk_set (i := 8) L1 trivial (by exact hs_) fun path_ => ?_)
    show Blk _ _ _ _ _ [iM script_, iM log_, iM roots_, iM given_, iM k_, iM cell_, iM index_, iM key_, iM path_, none, none, none, none] _
    try refine Blk.nx ?_
    have hs_ := ((ev_call (f := (fun (p : (List Str) × (List (T4 Str Str D D)) × Int × Str × (List Int) × Unit) => m_good_path p.1 p.2.1 p.2.2.1 p.2.2.2.1 p.2.2.2.2.1)) (ea_cons (ev_cast (f := D.asStrs) asStrs_ok asStrs_x (ev_op opx_ixL (fun x y => idx_mild x y) (ev_var (i := 3) (x := given_) rfl) (ev_int (i := 1)))) (ea_cons (ev_cast (f := D.asS2s) asS2s_ok asS2s_x (ev_op opx_ixL (fun x y => idx_mild x y) (ev_var (i := 3) (x := given_) rfl) (ev_int (i := 0)))) (ea_cons (ev_var (i := 6) (x := index_) rfl) (ea_cons (ev_var (i := 7) (x := key_) rfl) (ea_cons (ev_ofN (en_list (ev_var (i := 8) (x := path_) rfl))) ea_nil)))))) : EvX K (W0 E) [iM script_, iM log_, iM roots_, iM given_, iM k_, iM cell_, iM index_, iM key_, iM path_, none, none, none, none] _ _)
    refine blk_seq (blk_set (i := 9) L1 trivial (by exact hs_) fun found_ => ?_)
    show Blk _ _ _ _ _ [iM script_, iM log_, iM roots_, iM given_, iM k_, iM cell_, iM index_, iM key_, iM path_, iM found_, none, none, none] _
    try refine Blk.nx ?_
    have ht_ := ((et_or (et_not (et_B (ev_isi isi_bool (ev_var (i := 9) (x := found_) rfl)))) (et_test (ev_op opx_neB mild_ok (ev_var (i := 9) (x := found_) rfl) (ev_call (f := (fun (p : (List Str) × (List (T4 Str Str D D)) × Int × Str × (List Int) × Unit) => m_u_law_due p.1 p.2.1 p.2.2.1 p.2.2.2.1 p.2.2.2.2.1)) (ea_cons (ev_var (i := 2) (x := roots_) rfl) (ea_cons (ev_var (i := 1) (x := log_) rfl) (ea_cons (ev_var (i := 6) (x := index_) rfl) (ea_cons (ev_var (i := 7) (x := key_) rfl) (ea_cons (ev_var (i := 8) (x := path_) rfl) ea_nil))))))))) : EvT K (W0 E) [iM script_, iM log_, iM roots_, iM given_, iM k_, iM cell_, iM index_, iM key_, iM path_, iM found_, none, none, none] _ _)
    refine blk_if2 L1 trivial (by exact ht_) ?_ ?_
    · have hr_ := ((ev_bl (b := false)) : EvX K (W0 E) [iM script_, iM log_, iM roots_, iM given_, iM k_, iM cell_, iM index_, iM key_, iM path_, iM found_, none, none, none] _ _)
      exact blk_ret L1 trivial (by exact hr_)
    · refine blk_nil ?_
      try refine Blk.nx ?_
      exact (hN1 ()).weak (.same (.same (.same (.same (.drop (.drop (.drop (.drop (.drop (.drop (.same (.same (.same .nil)))))))))))))
  · intro _
    show Blk _ _ _ _ _ [iM script_, iM log_, iM roots_, iM given_, none, none, none, none, none, none, none, none, none] ((m_law_k8 script_ log_ roots_ given_) ())
    unfold m_law_k8
    try refine Blk.nx ?_
    have ht_ := ((et_test (ev_op opx_neD mild_need (ev_var (i := 3) (x := given_) rfl) (ev_ofN (en_lst (f := (fun y => ([y.1, y.2.1] : List D))) (ea_cons (ev_as (ev_var (i := 1) (x := log_) rfl) toD (fun _ => rfl) rfl) (ea_cons (ev_as (ev_var (i := 2) (x := roots_) rfl) toD (fun _ => rfl) rfl) ea_nil)) (fun _ => rfl) (fun _ => by show 2 ≤ 100000; decide))))) : EvT K (W0 E) [iM script_, iM log_, iM roots_, iM given_, none, none, none, none, none, none, none, none, none] _ _)
    refine blk_seq (blk_if2 L trivial (by exact ht_) ?_ ?_)
    · have hr_ := ((ev_bl (b := false)) : EvX K (W0 E) [iM script_, iM log_, iM roots_, iM given_, none, none, none, none, none, none, none, none, none] _ _)
      exact blk_ret L trivial (by exact hr_)
    · refine blk_nil ?_
      try refine Blk.nx ?_
      have hs_ := ((en_list (ev_var (i := 1) (x := log_) rfl)) : EvN K (W0 E) [iM script_, iM log_, iM roots_, iM given_, none, none, none, none, none, none, none, none, none] _ _)
      refine blk_seq (blk_own (i := 10) L trivial (by exact hs_) fun other_ => ?_)
      show Blk _ _ _ _ _ [iM script_, iM log_, iM roots_, iM given_, none, none, none, none, none, none, oW other_, none, none] _
      try refine Blk.nx ?_
      have hs_ := ((ev_opI (C := (fun _ j => 0 < j)) (g := fun i j => i % j) (fun x y _ h => by cases h; (show (0 : Int) < _; decide)) (ev_cb cx_abs (fun _ _ h => nomatch h) (ea_cons (ev_call (f := (fun (p : (Ro Int) × Int × Unit) => m_u_law_cell p.1 p.2.1)) (ea_cons (ev_var (i := 0) (x := script_) rfl) (ea_cons (ev_int (i := 30)) ea_nil))) ea_nil)) (ev_int (i := 21))) : EvX K (W0 E) [iM script_, iM log_, iM roots_, iM given_, none, none, none, none, none, none, oW other_, none, none] _ _)
      refine blk_seq (blk_set (i := 11) L trivial (by exact hs_) fun at_ => ?_)
      show Blk _ _ _ _ _ [iM script_, iM log_, iM roots_, iM given_, none, none, none, none, none, none, oW other_, iM at_, none] _
      try refine Blk.nx ?_
      have ht_ := ((et_test (ev_op (opx_B0 (g := fun i j => decide (i < j))) mild_ok (ev_var (i := 11) (x := at_) rfl) (ev_lenO (j := 10) (xs := other_) rfl))) : EvT K (W0 E) [iM script_, iM log_, iM roots_, iM given_, none, none, none, none, none, none, oW other_, iM at_, none] _ _)
      refine blk_seq (blk_ifj (S := (List (T4 Str Str D D))) (fun other_ => [iM script_, iM log_, iM roots_, iM given_, none, none, none, none, none, none, iM other_, iM at_, none]) (m_law_k3 log_ at_) L trivial (by exact ht_) ?_ ?_ ?_)
      · intro other_
        show Blk _ _ _ _ _ [iM script_, iM log_, iM roots_, iM given_, none, none, none, none, none, none, iM other_, iM at_, none] ((m_law_k3 log_ at_) other_)
        unfold m_law_k3
        try refine Blk.nx ?_
        have hs_ := ((ev_int (i := 0)) : EvX K (W0 E) [iM script_, iM log_, iM roots_, iM given_, none, none, none, none, none, none, iM other_, iM at_, none] _ _)
        refine blk_seq (blk_set (i := 12) L trivial (by exact hs_) fun due_ => ?_)
        show Blk _ _ _ _ _ [iM script_, iM log_, iM roots_, iM given_, none, none, none, none, none, none, iM other_, iM at_, iM due_] _
        try refine Blk.nx ?_
        have hi_ := ((ei_range1 (ev_cb cx_min (fun _ _ h => nomatch h) (ea_cons (ev_cb cx_len (fun _ _ h => nomatch h) (ea_cons (ev_var (i := 1) (x := log_) rfl) ea_nil)) (ea_cons (ev_cb cx_len (fun _ _ h => nomatch h) (ea_cons (ev_var (i := 10) (x := other_) rfl) ea_nil)) ea_nil)))) : EvI K (W0 E) [iM script_, iM log_, iM roots_, iM given_, none, none, none, none, none, none, iM other_, iM at_, iM due_] _ _)
        refine blk_seq (blk_for (S := Int) (m_law_l4 log_ other_ (m_law_k6 log_ other_ at_)) (m_law_k6 log_ other_ at_) (fun due_ => [iM script_, iM log_, iM roots_, iM given_, none, none, none, none, none, none, iM other_, iM at_, iM due_]) due_ L trivial (by exact hi_) (fun _ => gx_name) (.same (.same (.same (.same (.same (.same (.same (.same (.same (.same (.same (.same (.same .nil))))))))))))) (fun _ => rfl) ?_ ?_)
        · intro F4 L4 hB4 x148 r4 s_ N_ hN4
          revert s_; intro due_
          show Blk _ _ _ _ _ [iM script_, iM log_, iM roots_, iM given_, iM x148, none, none, none, none, none, iM other_, iM at_, iM due_] (m_law_l4 log_ other_ (m_law_k6 log_ other_ at_) (x148 :: r4) due_)
          rw [m_law_l4]
          show Blk _ _ _ _ _ _ ((fun (k_ : Int) => _) x148)
          generalize x148 = k_
          show Blk _ _ _ _ _ [iM script_, iM log_, iM roots_, iM given_, iM k_, none, none, none, none, none, iM other_, iM at_, iM due_] _
          have ht_ := ((et_test (ev_op opx_neD mild_need (ev_op opx_ixL (fun x y => idx_mild x y) (ev_var (i := 1) (x := log_) rfl) (ev_var (i := 4) (x := k_) rfl)) (ev_op opx_ixL (fun x y => idx_mild x y) (ev_var (i := 10) (x := other_) rfl) (ev_var (i := 4) (x := k_) rfl)))) : EvT K (W0 E) [iM script_, iM log_, iM roots_, iM given_, iM k_, none, none, none, none, none, iM other_, iM at_, iM due_] _ _)
          refine blk_seq (blk_if2 L4 trivial (by exact ht_) ?_ ?_)
          · exact (hB4 due_).weak (.same (.same (.same (.same (.drop (.same (.same (.same (.same (.same (.same (.same (.same .nil)))))))))))))
          · refine blk_nil ?_
            try refine Blk.nx ?_
            have hs_ := ((ev_op (opx_I0 (g := fun i j => i + j)) mild_ok (ev_var (i := 12) (x := due_) rfl) (ev_int (i := 1))) : EvX K (W0 E) [iM script_, iM log_, iM roots_, iM given_, iM k_, none, none, none, none, none, iM other_, iM at_, iM due_] _ _)
            refine blk_set (i := 12) L4 trivial (by exact hs_) fun due_ => ?_
            show Blk _ _ _ _ _ [iM script_, iM log_, iM roots_, iM given_, iM k_, none, none, none, none, none, iM other_, iM at_, iM due_] _
            try refine Blk.nx ?_
            exact (hN4 due_).weak (.same (.same (.same (.same (.drop (.same (.same (.same (.same (.same (.same (.same (.same .nil)))))))))))))
        · intro due_
          show Blk _ _ _ _ _ [iM script_, iM log_, iM roots_, iM given_, none, none, none, none, none, none, iM other_, iM at_, iM due_] ((m_law_k6 log_ other_ at_) due_)
          unfold m_law_k6
          try refine Blk.nx ?_
          have hr_ := ((ev_orV (ev_op opx_eqI mild_ok (ev_call (f := (fun (p : (List (T4 Str Str D D)) × (List (T4 Str Str D D)) × Unit) => m_common_beginning p.1 p.2.1)) (ea_cons (ev_var (i := 1) (x := log_) rfl) (ea_cons (ev_ofN (en_cat (ev_var (i := 10) (x := other_) rfl) (ev_var (i := 1) (x := log_) rfl))) ea_nil))) (ev_var (i := 12) (x := due_) rfl)) (ev_andV (ev_op (opx_B0 (g := fun i j => decide (j ≤ i))) mild_ok (ev_var (i := 11) (x := at_) rfl) (ev_cb cx_len (fun _ _ h => nomatch h) (ea_cons (ev_var (i := 1) (x := log_) rfl) ea_nil))) (ev_op opx_eqI mild_ok (ev_call (f := (fun (p : (List (T4 Str Str D D)) × (List (T4 Str Str D D)) × Unit) => m_common_beginning p.1 p.2.1)) (ea_cons (ev_var (i := 1) (x := log_) rfl) (ea_cons (ev_ofN (en_cat (ev_var (i := 10) (x := other_) rfl) (ev_var (i := 1) (x := log_) rfl))) ea_nil))) (ev_cb cx_len (fun _ _ h => nomatch h) (ea_cons (ev_var (i := 1) (x := log_) rfl) ea_nil))))) : EvX K (W0 E) [iM script_, iM log_, iM roots_, iM given_, none, none, none, none, none, none, iM other_, iM at_, iM due_] _ _)
          exact blk_ret L trivial (by exact hr_)
      · intro hk3
        have he_ := ((ev_tup (f := (fun (y : Str × Str × D × D × Unit) => T4.mk y.1 y.2.1 y.2.2.1 y.2.2.2.1)) (ea_cons (ev_str (x := "state")) (ea_cons (ev_str (x := "k0")) (ea_cons (ev_as (ev_tup (f := (fun (y : (T2 Int Int) × Unit) => T1.mk y.1)) (ea_cons (ev_tup (f := (fun (y : Int × Int × Unit) => T2.mk y.1 y.2.1)) (ea_cons (ev_int (i := 9)) (ea_cons (ev_int (i := 9)) ea_nil)) (fun _ => rfl) (fun _ => by show 2 ≤ 100000; decide)) ea_nil) (fun _ => rfl) (fun _ => by show 1 ≤ 100000; decide)) toD (fun _ => rfl) rfl) (ea_cons (ev_as (ev_tup (f := (fun (y : Unit) => T0.mk )) ea_nil (fun _ => rfl) (fun _ => by show 0 ≤ 100000; decide)) toD (fun _ => rfl) rfl) ea_nil)))) (fun _ => rfl) (fun _ => by show 4 ≤ 100000; decide)) : EvX K (W0 E) [iM script_, iM log_, iM roots_, iM given_, none, none, none, none, none, none, oW other_, iM at_, none] _ _)
        have hi_ := ((ev_var (i := 11) (x := at_) rfl) : EvX K (W0 E) [iM script_, iM log_, iM roots_, iM given_, none, none, none, none, none, none, oW other_, iM at_, none] _ _)
        refine blk_setI (i := 10) (xs := other_) (f := (m_law_k7 log_ at_)) L trivial rfl (by exact he_) (by exact hi_) fun other_ => ?_
        show Blk _ _ _ _ _ [iM script_, iM log_, iM roots_, iM given_, none, none, none, none, none, none, oW other_, iM at_, none] ((m_law_k7 log_ at_) other_)
        unfold m_law_k7
        show Blk _ _ _ _ _ [iM script_, iM log_, iM roots_, iM given_, none, none, none, none, none, none, oW other_, iM at_, none] _
        try refine Blk.nx ?_
        refine blk_freeze 10 rfl ?_
        show Blk _ _ _ _ _ [iM script_, iM log_, iM roots_, iM given_, none, none, none, none, none, none, iM other_, iM at_, none] _
        exact (hk3 other_).weak (.same (.same (.same (.same (.same (.same (.same (.same (.same (.same (.same (.same (.same .nil)))))))))))))
      · intro hk3
        refine blk_nil ?_
        try refine Blk.nx ?_
        refine blk_freeze 10 rfl ?_
        show Blk _ _ _ _ _ [iM script_, iM log_, iM roots_, iM given_, none, none, none, none, none, none, iM other_, iM at_, none] _
        exact (hk3 other_).weak (.same (.same (.same (.same (.same (.same (.same (.same (.same (.same (.same (.same (.same .nil)))))))))))))
theorem facts_of {K : PySem.W.Frag} {h : Heap} {w : World} {mg : Str → Option Value} (X : K.In h) (G : h.Ns mainGlobals mg) (c : SaysY fas dfs tbs sus exB w K) : Facts Rw.prog w K mg := by
  have cd : He.SaysD fas dfs K := c.t.d
  exact {
    d_good_path := cd.def_ 0 (d := ⟨("good_path", none), "good_path", "good_path", defArgs s_good_path, defBody s_good_path, defScope s_good_path, [], []⟩) rfl
    g_good_path := He.glo_ok X G (cd.fact 0 rfl)
    d_u_ascends := cd.def_ 1 (d := ⟨("_ascends", none), "_ascends", "_ascends", defArgs s_u_ascends, defBody s_u_ascends, defScope s_u_ascends, [], []⟩) rfl
    g_u_ascends := He.glo_ok X G (cd.fact 1 rfl)
    d_common_beginning := cd.def_ 2 (d := ⟨("common_beginning", none), "common_beginning", "common_beginning", defArgs s_common_beginning, defBody s_common_beginning, defScope s_common_beginning, [], []⟩) rfl
    g_common_beginning := He.glo_ok X G (cd.fact 2 rfl)
    d_u_law_cell := cd.def_ 3 (d := ⟨("_law_cell", none), "_law_cell", "_law_cell", defArgs s_u_law_cell, defBody s_u_law_cell, defScope s_u_law_cell, [], []⟩) rfl
    g_u_law_cell := He.glo_ok X G (cd.fact 3 rfl)
    d_u_law_key := cd.def_ 4 (d := ⟨("_law_key", none), "_law_key", "_law_key", defArgs s_u_law_key, defBody s_u_law_key, defScope s_u_law_key, [], []⟩) rfl
    g_u_law_key := He.glo_ok X G (cd.fact 4 rfl)
    d_u_law_entry := cd.def_ 5 (d := ⟨("_law_entry", none), "_law_entry", "_law_entry", defArgs s_u_law_entry, defBody s_u_law_entry, defScope s_u_law_entry, [], []⟩) rfl
    g_u_law_entry := He.glo_ok X G (cd.fact 5 rfl)
    d_u_law_makes := cd.def_ 6 (d := ⟨("_law_makes", none), "_law_makes", "_law_makes", defArgs s_u_law_makes, defBody s_u_law_makes, defScope s_u_law_makes, [], []⟩) rfl
    g_u_law_makes := He.glo_ok X G (cd.fact 6 rfl)
    d_u_law_lead := cd.def_ 7 (d := ⟨("_law_lead", none), "_law_lead", "_law_lead", defArgs s_u_law_lead, defBody s_u_law_lead, defScope s_u_law_lead, [], []⟩) rfl
    g_u_law_lead := He.glo_ok X G (cd.fact 7 rfl)
    d_u_law_changed := cd.def_ 8 (d := ⟨("_law_changed", none), "_law_changed", "_law_changed", defArgs s_u_law_changed, defBody s_u_law_changed, defScope s_u_law_changed, [], []⟩) rfl
    g_u_law_changed := He.glo_ok X G (cd.fact 8 rfl)
    d_u_law_due := cd.def_ 9 (d := ⟨("_law_due", none), "_law_due", "_law_due", defArgs s_u_law_due, defBody s_u_law_due, defScope s_u_law_due, [], []⟩) rfl
    g_u_law_due := He.glo_ok X G (cd.fact 9 rfl)
    d_law := cd.def_ 10 (d := ⟨("law", none), "law", "law", defArgs s_law, defBody s_law, defScope s_law, [], []⟩) rfl
    g_law := He.glo_ok X G (cd.fact 10 rfl)
    n_abs := He.free_ok X G (cd.fact 11 rfl)
    n_all := He.free_ok X G (cd.fact 12 rfl)
    n_any := He.free_ok X G (cd.fact 13 rfl)
    n_bool := He.free_ok X G (cd.fact 14 rfl)
    n_int := He.free_ok X G (cd.fact 15 rfl)
    n_isinstance := He.free_ok X G (cd.fact 16 rfl)
    n_len := He.free_ok X G (cd.fact 17 rfl)
    n_list := He.free_ok X G (cd.fact 18 rfl)
    n_min := He.free_ok X G (cd.fact 19 rfl)
    n_range := He.free_ok X G (cd.fact 20 rfl)
    n_str := He.free_ok X G (cd.fact 21 rfl)
    n_tuple := He.free_ok X G (cd.fact 22 rfl)
    n_zip := He.free_ok X G (cd.fact 23 rfl)
    c_ADMIT := con_of X G (He.ba (c.more)).2 (List.mem_of_getElem? (i := 0) rfl)
    c_REPLACE := con_of X G (He.ba (c.more)).2 (List.mem_of_getElem? (i := 1) rfl)
    c_WITHDRAW := con_of X G (He.ba (c.more)).2 (List.mem_of_getElem? (i := 2) rfl) }
end Mi
set_option maxHeartbeats 1000000
namespace Mi
open PySem PySem.Spec L2
theorem cond_dec {α : Type} {p : Prop} [Decidable p] (a b : α) : cond (decide p) a b = if p then a else b := by
  by_cases h : p <;> simp [h]
theorem pow_add_lt {x y a b : Nat} (ha : x < 2 ^ a) (hb : y < 2 ^ b) : x * y < 2 ^ (a + b) := by
  rw [Nat.pow_add]; exact Nat.mul_lt_mul'' ha hb
theorem idx_nat {α : Type} {xs : List α} {j : Nat} {v : α} (h : xs[j]? = some v) : idx xs (j : Int) = .ok v := by
  unfold idx; rw [atI_nat h]
theorem idx_int {α : Type} {xs : List α} {i : Int} {v : α} (h0 : 0 ≤ i) (h : xs[i.toNat]? = some v) : idx xs i = .ok v := by
  have : i = (i.toNat : Int) := by omega
  rw [this]; exact idx_nat h
theorem idx_last {α : Type} (xs : List α) (v : α) : idx (xs ++ [v]) (-1) = .ok v := by
  unfold idx; rw [atI_last]
theorem compL_map {α β : Type} {t : α → Res Bool} {e : α → Res β} {g : α → β} {xs : List α} (ht : ∀ x ∈ xs, t x = .ok true) (he : ∀ x ∈ xs, e x = .ok (g x)) : compL t e xs = .ok (xs.map g) := by
  induction xs with
  | nil => rfl
  | cons x r ih =>
    show (t x).bind _ = _
    rw [ht x List.mem_cons_self]
    show (e x).bind _ = _
    rw [he x List.mem_cons_self]
    show (compL t e r).bind _ = _
    rw [ih (fun y hy => ht y (List.mem_cons_of_mem _ hy)) fun y hy => he y (List.mem_cons_of_mem _ hy)]
    rfl
theorem idx_getLast {α : Type} {xs : List α} {v : α} (h : xs.getLast? = some v) : idx xs (-1) = .ok v := by
  obtain ⟨ys, rfl⟩ := List.getLast?_eq_some_iff.mp h
  exact idx_last ys v
mutual
/-- no truth values within -/
def D.nob : D → Bool
  | .bl _ => false
  | .ty _ => false
  | .obj _ _ _ => false
  | .ro _ => false
  | .dct _ _ => false
  | .tup xs => nobL xs
  | .lst xs => nobL xs
  | _ => true
def nobL : List D → Bool
  | [] => true
  | x :: xs => D.nob x && nobL xs
end
mutual
theorem pyEq_iff : ∀ (x y : D), x.nob = true → y.nob = true → (PyData.eqv x.py y.py = true ↔ x = y)
  | .non, y, _, h => by cases y <;> simp_all [D.py, PyData.eqv, D.nob]
  | .int i, y, _, h => by cases y <;> simp_all [D.py, PyData.eqv, D.nob]
  | .str s, y, _, h => by cases y <;> simp_all [D.py, PyData.eqv, D.nob]
  | .bl b, y, h, _ => by cases h
  | .ty b, y, h, _ => by cases h
  | .obj a b c, y, h, _ => by cases h
  | .ro a, y, h, _ => by cases h
  | .dct a b, y, h, _ => by cases h
  | .tup xs, y, h1, h => by
    cases y with
    | tup ys =>
      have := pyEqL_iff xs ys h1 h
      simp only [D.py, PyData.eqv, D.tup.injEq]; exact this
    | bl b => cases h
    | ty b => cases h
    | obj a b c => cases h
    | ro a => cases h
    | dct a b => cases h
    | _ => simp [D.py, PyData.eqv]
  | .lst xs, y, h1, h => by
    cases y with
    | lst ys =>
      have := pyEqL_iff xs ys h1 h
      simp only [D.py, PyData.eqv, D.lst.injEq]; exact this
    | bl b => cases h
    | ty b => cases h
    | obj a b c => cases h
    | ro a => cases h
    | dct a b => cases h
    | _ => simp [D.py, PyData.eqv]
theorem pyEqL_iff : ∀ (xs ys : List D), nobL xs = true → nobL ys = true → (PyData.eqvAll (pyL xs) (pyL ys) = true ↔ xs = ys)
  | [], ys, _, h => by cases ys <;> simp [pyL, PyData.eqvAll]
  | x :: xs, ys, h1, h => by
    cases ys with
    | nil => simp [pyL, PyData.eqvAll]
    | cons y ys =>
      obtain ⟨a1, a2⟩ := Bool.and_eq_true_iff.mp (show (D.nob x && nobL xs) = true from h1)
      obtain ⟨b1, b2⟩ := Bool.and_eq_true_iff.mp (show (D.nob y && nobL ys) = true from h)
      simp only [pyL, PyData.eqvAll, Bool.and_eq_true, pyEq_iff x y a1 b1, pyEqL_iff xs ys a2 b2, List.cons.injEq]
end
theorem pyEq_dec {x y : D} (hx : x.nob = true) (hy : y.nob = true) : pyEq x y = true ↔ x = y := pyEq_iff x y hx hy
theorem pyEq_self {x : D} (hx : x.nob = true) : pyEq x x = true := (pyEq_dec hx hx).mpr rfl
theorem pyEq_ne {x y : D} (hx : x.nob = true) (hy : y.nob = true) (h : x ≠ y) : pyEq x y = false := by
  cases e : pyEq x y with
  | false => rfl
  | true => exact absurd ((pyEq_dec hx hy).mp e) h
theorem nob_strs : ∀ xs : List Str, nobL (xs.map D.str) = true
  | [] => rfl
  | _ :: xs => nob_strs xs
theorem pyRange_drop {n i : Nat} (h : i < n) : (pyRange 0 (n : Int)).drop i = (i : Int) :: (pyRange 0 (n : Int)).drop (i + 1) := by
  have hl : (pyRange 0 (n : Int)).length = n := by rw [pyRange_len]; omega
  rw [List.drop_eq_getElem_cons (by omega)]
  congr 1
  have := pyRange_get (lo := 0) (hi := (n : Int)) (i := i) (by omega)
  rw [List.getElem?_eq_getElem (by omega)] at this
  have := Option.some.inj this
  omega
theorem pyRange_nonneg {k n : Int} (h : k ∈ pyRange 0 n) : 0 ≤ k := by
  obtain ⟨i, _, rfl⟩ := List.mem_map.mp h
  omega
end Mi
set_option maxHeartbeats 1000000
namespace Mi
/-! ### primes -/
def IsP (n : Nat) : Prop := 2 ≤ n ∧ ∀ d, d ∣ n → d = 1 ∨ d = n
def prodL (l : List Nat) : Nat := l.foldr (· * ·) 1
theorem has_prime : ∀ (n : Nat), 2 ≤ n → ∃ p, IsP p ∧ p ∣ n := by
  intro n
  induction n using Nat.strongRecOn with
  | ind n ih =>
    intro h
    by_cases hp : IsP n
    · exact ⟨n, hp, Nat.dvd_refl n⟩
    · have : ∃ d, d ∣ n ∧ d ≠ 1 ∧ d ≠ n := by
        refine Classical.byContradiction fun c => hp ⟨h, fun d hd => ?_⟩
        refine Classical.byContradiction fun e => c ⟨d, hd, fun z => e (.inl z), fun z => e (.inr z)⟩
      obtain ⟨d, hd, h1, h2⟩ := this
      have hle := Nat.le_of_dvd (by omega) hd
      have h0 : d ≠ 0 := fun z => by subst z; have := Nat.eq_zero_of_zero_dvd hd; omega
      obtain ⟨p, p1, p2⟩ := ih d (by omega) (by omega)
      exact ⟨p, p1, Nat.dvd_trans p2 hd⟩
/-- no prime factor up to the root: a prime -/
theorem isP_of {n : Nat} (h2 : 2 ≤ n) (h : ∀ p, IsP p → p ∣ n → n < p * p) : IsP n := by
  refine ⟨h2, fun d hd => Classical.byContradiction fun c => ?_⟩
  have hle := Nat.le_of_dvd (by omega) hd
  have h0 : d ≠ 0 := fun z => by subst z; have := Nat.eq_zero_of_zero_dvd hd; omega
  have h1 : d ≠ 1 := fun z => c (.inl z)
  have h3 : d ≠ n := fun z => c (.inr z)
  obtain ⟨e, rfl⟩ := hd
  have e2 : 2 ≤ e := by
    rcases (by omega : e = 0 ∨ e = 1 ∨ 2 ≤ e) with rfl | rfl | q
    · omega
    · omega
    · exact q
  obtain ⟨p, p1, p2⟩ := has_prime d (by omega)
  obtain ⟨q, q1, q2⟩ := has_prime e e2
  have a1 := h p p1 (Nat.dvd_trans p2 (Nat.dvd_mul_right d e))
  have a2 := h q q1 (Nat.dvd_trans q2 (Nat.dvd_mul_left e d))
  have b1 := Nat.le_of_dvd (by omega) p2
  have b2 := Nat.le_of_dvd (by omega) q2
  have b3 := Nat.mul_le_mul b1 b2
  rcases Nat.le_total p q with z | z
  · have := Nat.mul_le_mul_left p z; omega
  · have := Nat.mul_le_mul_right q z; omega
/-- the power's residue, as the kernel works it out -/
def pwm (n : Nat) : Nat → Nat → Nat → Nat → Nat
  | 0, _, _, acc => acc
  | f + 1, b, e, acc => pwm n f (b * b % n) (e / 2) (if e % 2 = 1 then acc * b % n else acc)
/-- one prime q of n - 1, by numbers -/
def pkOk (n a q f : Nat) : Bool := decide (q ∣ n - 1) && decide (n - 1 < 2 ^ f) && decide (pwm n f a (n - 1) 1 % n = 1) && decide (Nat.gcd (pwm n f a ((n - 1) / q) 1 % n - 1) n = 1) && decide (0 < pwm n f a ((n - 1) / q) 1 % n)
theorem small_prime {n : Nat} (h2 : 2 ≤ n) (h : ∀ d, 2 ≤ d → d * d ≤ n → ¬ d ∣ n) : IsP n :=
  isP_of h2 fun p hp hd => Nat.lt_of_not_le fun z => h p hp.1 z hd
def noDiv (n : Nat) : Nat → Nat → Bool
  | 0, _ => true
  | f + 1, d => !decide (n % d = 0) && noDiv n f (d + 1)
theorem noDiv_ok (n : Nat) : ∀ (f d : Nat), noDiv n f d = true → ∀ k, d ≤ k → k < d + f → ¬ k ∣ n
  | 0, d, _, k, h1, h2 => by omega
  | f + 1, d, h, k, h1, h2 => by
    rw [noDiv, Bool.and_eq_true] at h
    obtain ⟨a, b⟩ := h
    by_cases e : k = d
    · subst e
      intro z
      rw [Nat.mod_eq_zero_of_dvd z] at a
      simp at a
    · exact noDiv_ok n f (d + 1) b k (by omega) (by omega)
theorem prime_by {n f : Nat} (h2 : 2 ≤ n) (hf : n < (f + 2) * (f + 2)) (h : noDiv n f 2 = true) : IsP n :=
  small_prime h2 fun d h3 h4 h5 => noDiv_ok n f 2 h d h3 (Nat.lt_of_not_le fun z => by
    have := Nat.mul_le_mul z z
    rw [Nat.add_comm] at hf
    omega) h5
theorem p61 : IsP 1321 ∧ IsP 331 ∧ IsP 151 ∧ IsP 61 := ⟨prime_by (f := 40) (by decide) (by decide) (by decide +kernel), prime_by (f := 40) (by decide) (by decide) (by decide +kernel), prime_by (f := 40) (by decide) (by decide) (by decide +kernel), prime_by (f := 40) (by decide) (by decide) (by decide +kernel)⟩
end Mi
set_option maxHeartbeats 1000000
namespace Mi
/-! ### residues -/
theorem em_mul {p x y u v : Int} (h : x % p = u % p) (h2 : y % p = v % p) : x * y % p = u * v % p := by rw [Int.mul_emod, h, h2, ← Int.mul_emod]
theorem em_dvd {p x y : Int} (h : x % p = y % p) : p ∣ x - y := Int.dvd_of_emod_eq_zero (Int.emod_eq_emod_iff_emod_sub_eq_zero.mp h)
theorem em_of_dvd {p x y : Int} (h : p ∣ x - y) : x % p = y % p := Int.emod_eq_emod_iff_emod_sub_eq_zero.mpr (Int.emod_eq_zero_of_dvd h)
/-! ### a polynomial's roots -/
def evp : List Int → Int → Int
  | [], _ => 0
  | c :: cs, x => c + x * evp cs x
def dvp : List Int → Int → List Int
  | [], _ => []
  | [_], _ => []
  | _ :: d :: cs, r => evp (d :: cs) r :: dvp (d :: cs) r
end Mi
set_option maxHeartbeats 1000000
namespace Mi
/-! ### residues as a ring -/
def zr (p : Nat) (x y : Int) : Prop := x % p = y % p
def Zp (p : Nat) : Type := Quot (zr p)
def zm (p : Nat) (x : Int) : Zp p := Quot.mk _ x
theorem zr_iff {p : Nat} {x y : Int} : zr p x y ↔ (p : Int) ∣ x - y := ⟨fun h => em_dvd h, fun h => em_of_dvd h⟩
section
variable {p : Nat}
def zadd : Zp p → Zp p → Zp p := Quot.lift (fun x => Quot.lift (fun y => zm p (x + y)) fun a b h => Quot.sound (by
  rw [zr_iff] at h ⊢; rw [show x + a - (x + b) = a - b by omega]; exact h)) fun a b h => by
  funext y
  induction y using Quot.ind
  refine Quot.sound ?_
  rw [zr_iff] at h ⊢
  rename_i y
  rw [show a + y - (b + y) = a - b by omega]; exact h
def zmul : Zp p → Zp p → Zp p := Quot.lift (fun x => Quot.lift (fun y => zm p (x * y)) fun a b h => Quot.sound (em_mul rfl h)) fun a b h => by
  funext y
  induction y using Quot.ind
  exact Quot.sound (em_mul h rfl)
def zneg : Zp p → Zp p := Quot.lift (fun x => zm p (-x)) fun a b h => Quot.sound (by
  rw [zr_iff] at h ⊢
  rw [show -a - -b = -(a - b) by omega]; exact Int.dvd_neg.mpr h)
instance : Add (Zp p) := ⟨zadd⟩
instance : Mul (Zp p) := ⟨zmul⟩
instance : Neg (Zp p) := ⟨zneg⟩
instance : Sub (Zp p) := ⟨fun x y => x + -y⟩
instance : NatCast (Zp p) := ⟨fun n => zm p (n : Int)⟩
instance : IntCast (Zp p) := ⟨fun n => zm p n⟩
instance (n : Nat) : OfNat (Zp p) n := ⟨zm p (n : Int)⟩
def zpow (x : Zp p) : Nat → Zp p
  | 0 => 1
  | n + 1 => zpow x n * x
instance : HPow (Zp p) Nat (Zp p) := ⟨zpow⟩
instance : SMul Nat (Zp p) := ⟨fun n x => (n : Zp p) * x⟩
instance : SMul Int (Zp p) := ⟨fun n x => (n : Zp p) * x⟩
instance : Lean.Grind.CommRing (Zp p) where
  add_zero := fun a => Quot.inductionOn a (fun x => congrArg (zm p) (Int.add_zero x))
  add_comm := fun a b => Quot.inductionOn a (fun x => Quot.inductionOn b (fun y => congrArg (zm p) (Int.add_comm x y)))
  add_assoc := fun a b c => Quot.inductionOn a (fun x => Quot.inductionOn b (fun y => Quot.inductionOn c (fun z => congrArg (zm p) (Int.add_assoc x y z))))
  mul_assoc := fun a b c => Quot.inductionOn a (fun x => Quot.inductionOn b (fun y => Quot.inductionOn c (fun z => congrArg (zm p) (Int.mul_assoc x y z))))
  mul_one := fun a => Quot.inductionOn a (fun x => congrArg (zm p) (Int.mul_one x))
  one_mul := fun a => Quot.inductionOn a (fun x => congrArg (zm p) (Int.one_mul x))
  left_distrib := fun a b c => Quot.inductionOn a (fun x => Quot.inductionOn b (fun y => Quot.inductionOn c (fun z => congrArg (zm p) (Int.mul_add x y z))))
  right_distrib := fun a b c => Quot.inductionOn a (fun x => Quot.inductionOn b (fun y => Quot.inductionOn c (fun z => congrArg (zm p) (Int.add_mul x y z))))
  zero_mul := fun a => Quot.inductionOn a (fun x => congrArg (zm p) (Int.zero_mul x))
  mul_zero := fun a => Quot.inductionOn a (fun x => congrArg (zm p) (Int.mul_zero x))
  pow_zero := fun a => rfl
  pow_succ := fun a n => rfl
  ofNat_succ := fun n => rfl
  ofNat_eq_natCast := fun n => rfl
  nsmul_eq_natCast_mul := fun n a => rfl
  neg_add_cancel := fun a => Quot.inductionOn a (fun x => congrArg (zm p) (Int.add_left_neg x))
  sub_eq_add_neg := fun a b => rfl
  neg_zsmul := fun i a => Quot.inductionOn a (fun x => congrArg (zm p) (Int.neg_mul i x))
  zsmul_natCast_eq_nsmul := fun n a => rfl
  intCast_ofNat := fun n => rfl
  intCast_neg := fun i => rfl
  mul_comm := fun a b => Quot.inductionOn a (fun x => Quot.inductionOn b (fun y => congrArg (zm p) (Int.mul_comm x y)))
end
end Mi
namespace Mi
end Mi
set_option maxHeartbeats 1000000
namespace Mi
open PySem PySem.Spec L2
/-! ### sizes, found by themselves -/
class Bd (x : Int) (n : outParam Nat) : Prop where
  lt : x.natAbs < 2 ^ n
class Pb (p : Nat) : Prop where
  pos : 0 < p
  lt : p < 2 ^ 256
theorem Bd.up {x : Int} {m n : Nat} (h : x.natAbs < 2 ^ m) (e : m ≤ n) : x.natAbs < 2 ^ n := Nat.lt_of_lt_of_le h (Nat.pow_le_pow_right (by decide) e)
instance bd_mul {x y : Int} {a b : Nat} [h1 : Bd x a] [h2 : Bd y b] : Bd (x * y) (a + b) := ⟨by rw [Int.natAbs_mul]; exact pow_add_lt h1.lt h2.lt⟩
theorem two_sum {u v a b : Nat} (h1 : u < 2 ^ a) (h2 : v < 2 ^ b) : u + v < 2 ^ (max a b + 1) := by
  have := Nat.lt_of_lt_of_le h1 (Nat.pow_le_pow_right (show 0 < 2 by decide) (Nat.le_max_left a b))
  have := Nat.lt_of_lt_of_le h2 (Nat.pow_le_pow_right (show 0 < 2 by decide) (Nat.le_max_right a b))
  rw [Nat.pow_succ]; omega
instance bd_add {x y : Int} {a b : Nat} [h1 : Bd x a] [h2 : Bd y b] : Bd (x + y) (max a b + 1) := ⟨Nat.lt_of_le_of_lt (Int.natAbs_add_le x y) (two_sum h1.lt h2.lt)⟩
instance bd_sub {x y : Int} {a b : Nat} [h1 : Bd x a] [h2 : Bd y b] : Bd (x - y) (max a b + 1) := ⟨Nat.lt_of_le_of_lt (Int.natAbs_sub_le x y) (two_sum h1.lt h2.lt)⟩
instance bd_neg {x : Int} {a : Nat} [h1 : Bd x a] : Bd (-x) a := ⟨by rw [Int.natAbs_neg]; exact h1.lt⟩
instance bd_pow {x : Int} {a k : Nat} [h1 : Bd x a] : Bd (x ^ k) (a * k + 1) := ⟨by
  rw [Int.natAbs_pow]
  have : x.natAbs ^ k ≤ (2 ^ a) ^ k := Nat.pow_le_pow_left (Nat.le_of_lt h1.lt) k
  rw [← Nat.pow_mul] at this
  have : 2 ^ (a * k) < 2 ^ (a * k + 1) := Nat.pow_lt_pow_right (by decide) (by omega)
  omega⟩
instance : Bd (0 : Int) 8 := ⟨by decide⟩
instance : Bd (1 : Int) 8 := ⟨by decide⟩
instance : Bd (2 : Int) 8 := ⟨by decide⟩
instance : Bd (3 : Int) 8 := ⟨by decide⟩
instance : Bd (4 : Int) 8 := ⟨by decide⟩
instance : Bd (5 : Int) 8 := ⟨by decide⟩
instance : Bd (6 : Int) 8 := ⟨by decide⟩
instance : Bd (7 : Int) 8 := ⟨by decide⟩
instance : Bd (8 : Int) 8 := ⟨by decide⟩
instance : Bd (9 : Int) 8 := ⟨by decide⟩
instance : Bd (12 : Int) 8 := ⟨by decide⟩
instance : Bd (13 : Int) 8 := ⟨by decide⟩
instance : Bd (16 : Int) 8 := ⟨by decide⟩
instance : Bd (27 : Int) 8 := ⟨by decide⟩
instance : Bd (2147483648 : Int) 70 := ⟨by decide +kernel⟩
instance : Bd (4294967296 : Int) 70 := ⟨by decide +kernel⟩
instance : Bd (2305843009213693952 : Int) 70 := ⟨by decide +kernel⟩
instance : Bd (9223372036854775808 : Int) 70 := ⟨by decide +kernel⟩
instance : Bd (18446744073709551616 : Int) 70 := ⟨by decide +kernel⟩
instance : Bd (6277101735386680763835789423207666416102355444464034512896 : Int) 200 := ⟨by decide +kernel⟩
instance bd_p {p : Nat} [h : Pb p] : Bd (p : Int) 256 := ⟨by rw [Int.natAbs_natCast]; exact h.lt⟩
instance bd_mod {p : Nat} {x : Int} [h : Pb p] : Bd (x % (p : Int)) 256 := ⟨by
  have := h.pos; have := h.lt
  have := Int.emod_nonneg x (show (p : Int) ≠ 0 by omega)
  have := Int.emod_lt_of_pos x (show (0 : Int) < (p : Int) by omega)
  omega⟩
end Mi
namespace Mi
open PySem PySem.Spec L2
/-! ### the law's own helpers -/
theorem cell_ok (ns : Ro Int) (k : Nat) : m_u_law_cell ns (k : Int) = .ok (ns.xs.getD k 0) := by
  unfold m_u_law_cell
  simp only [Res.bind_ok, cond_dec]
  by_cases h : (k : Int) < (ns.xs.length : Int)
  · rw [if_pos h]
    have h' : k < ns.xs.length := by omega
    rw [idx_nat (List.getElem?_eq_getElem h')]
    simp [Res.bind_ok, h']
  · rw [if_neg h]
    have h' : ¬ k < ns.xs.length := by omega
    simp [h']
theorem cell_ex (ns : Ro Int) {k : Int} (hk : 0 ≤ k) : ∃ c, m_u_law_cell ns k = .ok c := by
  obtain ⟨j, rfl⟩ := Int.eq_ofNat_of_zero_le hk
  exact ⟨_, cell_ok ns j⟩


/-! ### k70: values, keys and entries -/
abbrev Ent := T4 Str Str D D
def nice (n : Nat) (d : D) : Prop := d.flat = true ∧ d.py.canLay0 = true ∧ d.py.depth ≤ n ∧ d.nob = true
theorem nice_mono {n m : Nat} {d : D} (h : nice n d) (k : n ≤ m) : nice m d := ⟨h.1, h.2.1, Nat.le_trans h.2.2.1 k, h.2.2.2⟩
theorem nice_all {n : Nat} : ∀ ds : List D, (∀ d ∈ ds, nice n d) → flatL ds = true ∧ PyData.canLayAll0 (pyL ds) = true ∧ PyData.depthAll (pyL ds) ≤ n ∧ nobL ds = true
  | [], _ => ⟨rfl, rfl, Nat.zero_le _, rfl⟩
  | x :: r, h => by
    obtain ⟨a1, a2, a3, a4⟩ := h x List.mem_cons_self
    obtain ⟨b1, b2, b3, b4⟩ := nice_all r fun z hz => h z (List.mem_cons_of_mem _ hz)
    refine ⟨?_, ?_, ?_, ?_⟩
    · show (x.flat && flatL r) = true
      rw [a1, b1]; rfl
    · show (PyData.canLay0 x.py && PyData.canLayAll0 (pyL r)) = true
      rw [a2, b2]; rfl
    · show max (PyData.depth x.py) (PyData.depthAll (pyL r)) ≤ n
      omega
    · show (x.nob && nobL r) = true
      rw [a4, b4]; rfl
theorem nice_tup {n : Nat} {ds : List D} (h : ∀ d ∈ ds, nice n d) : nice (n + 1) (.tup ds) := by
  obtain ⟨a, b, c, d⟩ := nice_all ds h
  exact ⟨a, b, Nat.succ_le_succ c, d⟩
theorem nice_lst {n : Nat} {ds : List D} (h : ∀ d ∈ ds, nice n d) : nice (n + 1) (.lst ds) := by
  obtain ⟨a, b, c, d⟩ := nice_all ds h
  exact ⟨a, b, Nat.succ_le_succ c, d⟩
theorem nice_okq {n : Nat} {d : D} (h : nice n d) (hn : n ≤ 64) : d.okq = true := by
  obtain ⟨a, b, c, _⟩ := h
  show (d.flat && (PyData.canLay0 d.py && decide (d.py.depth ≤ 64))) = true
  rw [a, b, decide_eq_true (by omega)]; rfl
theorem nice_eq {n : Nat} {d : D} (h : nice n d) : pyEq d d = true := pyEq_self h.2.2.2
theorem nice_nil {n : Nat} : ∀ d ∈ ([] : List D), nice n d := fun _ h => nomatch h
theorem nice_cons {n : Nat} {x : D} {r : List D} (a : nice n x) (b : ∀ d ∈ r, nice n d) : ∀ d ∈ x :: r, nice n d := fun d hd => by
  rcases List.mem_cons.mp hd with rfl | hd
  · exact a
  · exact b d hd
theorem nice_int (n : Nat) (i : Int) : nice n (.int i) := ⟨rfl, rfl, Nat.zero_le _, rfl⟩
def kys : List Str := ["k0", "k1", "k2", "k3", "k4", "k5", "k6", "k7", "k8", "k9"]
def niceS (s : Str) : Bool := (D.str s).py.canLay0
theorem nice_str {n : Nat} {s : Str} (h : niceS s = true) : nice n (.str s) := ⟨rfl, h, Nat.zero_le _, rfl⟩
theorem kys_nice : kys.all niceS = true := by decide +kernel
theorem key_nice {n : Nat} {s : Str} (h : s ∈ kys) : nice n (.str s) := nice_str (List.all_eq_true.mp kys_nice s h)
theorem key_ok (c : Int) : ∃ s, m_u_law_key c = .ok s ∧ s ∈ kys := by
  have h0 := Int.emod_nonneg c (show (10 : Int) ≠ 0 by decide)
  have h1 := Int.emod_lt_of_pos c (show (0 : Int) < 10 by decide)
  have lg : (c % 10).natAbs.log2 < 1920 := by
    have : (c % 10).natAbs.log2 ≤ (c % 10).natAbs := by
      rcases Nat.eq_zero_or_pos (c % 10).natAbs with z | z
      · rw [z]; decide
      · exact Nat.log2_le_self _
    omega
  unfold m_u_law_key
  rw [Res.need_pos lg, Res.bind_ok]
  generalize c % 10 = i at *
  have all : ∀ j : Nat, j < 10 → (("k" : Str).length + (toString (j : Int) : Str).length ≤ 16777216) ∧ ("k" : Str) ++ (toString (j : Int) : Str) ∈ kys := by decide +kernel
  obtain ⟨j, rfl⟩ := Int.eq_ofNat_of_zero_le h0
  obtain ⟨a, b⟩ := all j (by omega)
  exact ⟨_, Res.need_pos a, b⟩
def ar (e : Ent) : Bool := decide (e.a ∈ ([k_ADMIT, k_REPLACE] : List Str))
def wd (e : Ent) : Bool := e.a == k_WITHDRAW
def nm (e : Ent) : Str := match e.c with
  | .tup (.str k :: _) => k
  | _ => ("" : Str)
structure EOk (e : Ent) : Prop where
  b : e.b ∈ kys
  two : ar e = true → ∃ k x, k ∈ kys ∧ e.c = .tup [.str k, x]
  one : wd e = true → ∃ k, k ∈ kys ∧ e.c = .tup [.str k]
  q : nice 9 (toD e)
theorem eok_mk {a b : Str} {c d : D} (ha : niceS a = true) (hb : b ∈ kys) (hc : nice 8 c) (hd : nice 8 d) (h2 : decide (a ∈ ([k_ADMIT, k_REPLACE] : List Str)) = true → ∃ k x, k ∈ kys ∧ c = .tup [.str k, x]) (h1 : (a == k_WITHDRAW) = true → ∃ k, k ∈ kys ∧ c = .tup [.str k]) : EOk (T4.mk a b c d) :=
  ⟨hb, h2, h1, nice_tup (nice_cons (nice_str ha) (nice_cons (key_nice hb) (nice_cons hc (nice_cons hd nice_nil))))⟩
theorem lits : niceS "admit" = true ∧ niceS "replace" = true ∧ niceS "withdraw" = true ∧ niceS "state" = true ∧ niceS "as" = true ∧ niceS "" = true ∧ niceS "k0" = true := by decide +kernel
theorem no_w : (("admit" : Str) == k_WITHDRAW) = false ∧ (("replace" : Str) == k_WITHDRAW) = false ∧ (("state" : Str) == k_WITHDRAW) = false := by decide +kernel
theorem no_ar : decide (("withdraw" : Str) ∈ ([k_ADMIT, k_REPLACE] : List Str)) = false ∧ decide (("state" : Str) ∈ ([k_ADMIT, k_REPLACE] : List Str)) = false := by decide +kernel
theorem entry_ok (c : Int) : ∃ e, m_u_law_entry c = .ok e ∧ EOk e := by
  obtain ⟨au, ea, ka⟩ := key_ok (c / 8)
  obtain ⟨ky, ek, kk⟩ := key_ok (c / 80)
  obtain ⟨l1, l2, l3, l4, l5, l6, l7⟩ := lits
  have no2 : ∀ {P : Prop} {a : Str}, decide (a ∈ ([k_ADMIT, k_REPLACE] : List Str)) = false → decide (a ∈ ([k_ADMIT, k_REPLACE] : List Str)) = true → P := fun h k => by rw [h] at k; cases k
  have no1 : ∀ {P : Prop} {a : Str}, (a == k_WITHDRAW) = false → (a == k_WITHDRAW) = true → P := fun h k => by rw [h] at k; cases k
  have t1 : nice 8 (toD (T1.mk (1 : Int))) := nice_mono (nice_tup (n := 0) (nice_cons (nice_int _ _) nice_nil)) (by decide)
  have t0 : nice 8 (toD T0.mk) := nice_mono (nice_tup (n := 0) nice_nil) (by decide)
  have adm : ∀ s : Str, niceS s = true → ∀ d, nice 8 d → EOk (T4.mk ("admit" : Str) au (toD (T2.mk ky s)) d) := fun s hs d hd => eok_mk l1 ka (nice_mono (nice_tup (n := 0) (nice_cons (key_nice kk) (nice_cons (nice_str hs) nice_nil))) (by decide)) hd (fun _ => ⟨ky, _, kk, rfl⟩) (no1 no_w.1)
  have rep : ∀ x : D, nice 3 x → ∀ d, nice 8 d → EOk (T4.mk ("replace" : Str) au (.tup [.str ky, x]) d) := fun x hx d hd => eok_mk l2 ka (nice_mono (nice_tup (n := 3) (nice_cons (key_nice kk) (nice_cons hx nice_nil))) (by decide)) hd (fun _ => ⟨ky, _, kk, rfl⟩) (no1 no_w.2.1)
  have wit : ∀ d, nice 8 d → EOk (T4.mk ("withdraw" : Str) au (toD (T1.mk ky)) d) := fun d hd => eok_mk l3 ka (nice_mono (nice_tup (n := 0) (nice_cons (key_nice kk) nice_nil)) (by decide)) hd (no2 no_ar.1) (fun _ => ⟨ky, kk, rfl⟩)
  have sta : ∀ x : D, nice 3 x → ∀ d, nice 8 d → EOk (T4.mk ("state" : Str) au (.tup [x]) d) := fun x hx d hd => eok_mk l4 ka (nice_mono (nice_tup (n := 3) (nice_cons hx nice_nil)) (by decide)) hd (no2 no_ar.2) (no1 no_w.2.2)
  have i1 : ∀ i : Int, nice 3 (toD (T1.mk i)) := fun i => nice_mono (nice_tup (n := 0) (nice_cons (nice_int _ _) nice_nil)) (by decide)
  have i0 : nice 3 (toD T0.mk) := nice_mono (nice_tup (n := 0) nice_nil) (by decide)
  unfold m_u_law_entry
  rw [ea, Res.bind_ok, ek, Res.bind_ok, Res.bind_ok, Res.bind_ok]
  by_cases h1 : c % 8 < 3
  · rw [decide_eq_true h1]; exact ⟨_, rfl, adm _ l5 _ t1⟩
  rw [decide_eq_false h1, cond_false, Res.bind_ok]
  by_cases h2 : c % 8 < 5
  · rw [decide_eq_true h2]; exact ⟨_, rfl, rep _ (i1 2) _ t1⟩
  rw [decide_eq_false h2, cond_false, Res.bind_ok]
  by_cases h3 : c % 8 = 5
  · rw [decide_eq_true h3]; exact ⟨_, rfl, wit _ t1⟩
  rw [decide_eq_false h3, cond_false, Res.bind_ok]
  by_cases h4 : c % 8 = 6
  · rw [decide_eq_true h4]; exact ⟨_, rfl, sta _ (i1 3) _ t1⟩
  rw [decide_eq_false h4, cond_false, Res.bind_ok, Res.need_pos (by show 3 + 1 ≤ 16777216; decide), Res.bind_ok]
  have g0 := Int.emod_nonneg (c / 800) (show (4 : Int) ≠ 0 by decide)
  have g1 := Int.emod_lt_of_pos (c / 800) (show (0 : Int) < 4 by decide)
  generalize c / 800 % 4 = i at *
  rcases (show i = 0 ∨ i = 1 ∨ i = 2 ∨ i = 3 by omega) with rfl | rfl | rfl | rfl
  · exact ⟨_, rfl, adm _ l6 _ t1⟩
  · exact ⟨_, rfl, sta _ i0 _ t0⟩
  · exact ⟨_, rfl, rep _ i0 _ t0⟩
  · exact ⟨_, rfl, wit _ t0⟩
theorem makes_ok {e : Ent} (h : EOk e) : m_u_law_makes e = .ok (if ar e = true then some (nm e) else none) := by
  unfold m_u_law_makes
  rw [Res.need_pos (by rfl), Res.bind_ok]
  show (cond (ar e) (((Res.ok e.c).bind fun t => D.lenR t).bind fun t => Res.ok (decide (t = 2))) (Res.ok false)).bind _ = _
  cases q : ar e with
  | false => rfl
  | true =>
    obtain ⟨k, x, _, hc⟩ := h.two q
    rw [if_pos rfl, cond_true, hc]
    unfold nm
    rw [hc]; rfl

/-! ### k70: good paths, by the program and by the law -/
theorem cpreP {α : Type} (xs : List α) (k : Nat) : cutL xs none (some (k : Int)) = xs.take k := by
  unfold cutL
  rw [HT.sIx_none, HT.sIx_nat, List.drop_zero, Nat.sub_zero]
  by_cases c : k ≤ xs.length
  · rw [Nat.min_eq_left c]
  · rw [Nat.min_eq_right (by omega), List.take_of_length_le (by omega), List.take_of_length_le (by omega)]
theorem csufP {α : Type} (xs : List α) (k : Nat) : cutL xs (some (k : Int)) none = xs.drop k := by
  unfold cutL
  rw [HT.sIx_none, HT.sIx_nat]
  by_cases c : k ≤ xs.length
  · rw [Nat.min_eq_left c, List.take_of_length_le (by rw [List.length_drop]; omega)]
  · rw [Nat.min_eq_right (by omega), List.drop_length, List.drop_eq_nil_of_le (by omega), List.take_nil]
theorem cut_m1 {α : Type} (xs : List α) : cutL xs none (some (-1)) = xs.dropLast := by
  unfold cutL
  rw [HT.sIx_none, List.drop_zero, Nat.sub_zero, List.dropLast_eq_take]
  congr 1
  show (if (-1 : Int) < 0 then (-1 + (xs.length : Int)).toNat else min (-1 : Int).toNat xs.length) = _
  rw [if_pos (by decide)]; omega
def chB : List Int → Bool
  | [] => true
  | [_] => true
  | x :: y :: r => decide (x < y) && chB (y :: r)
theorem asc_ok {xs : List Int} (h : xs.length ≤ 16777216) : m_u_ascends xs = .ok (chB xs) := by
  have hz : (List.zipWith T2.mk xs (xs.drop 1)).length ≤ 16777216 := by rw [List.length_zipWith]; omega
  unfold m_u_ascends
  rw [show cutL xs (some (1 : Int)) none = xs.drop 1 from csufP xs 1, Res.bind_ok, Res.need_pos hz, compL_map (g := fun (x : T2 Int Int) => decide (x.a < x.b)) (fun _ _ => rfl) (fun _ _ => rfl)]
  simp only [Res.bind_ok]
  congr 1
  clear h hz
  induction xs with
  | nil => rfl
  | cons x r ih =>
    cases r with
    | nil => rfl
    | cons y r =>
      show (decide (x < y) && ((List.zipWith T2.mk (y :: r) r).map fun (x : T2 Int Int) => decide (x.a < x.b)).all id) = (decide (x < y) && chB (y :: r))
      congr 1
def en (log : List Ent) (a : Int) : Ent := (log[a.toNat]?).getD ⟨"", "", .non, .non⟩
theorem en_idx {log : List Ent} {a : Int} (h0 : 0 ≤ a) (h1 : a < log.length) : idx log a = .ok (en log a) ∧ en log a ∈ log := by
  obtain ⟨j, rfl⟩ := Int.eq_ofNat_of_zero_le h0
  have hj : j < log.length := by omega
  have e : log[(j : Int).toNat]? = some log[j] := List.getElem?_eq_getElem hj
  have e2 : en log (j : Int) = log[j] := by unfold en; rw [e]; rfl
  rw [e2]
  exact ⟨idx_int h0 e, List.getElem_mem _⟩
/-- what the law asks of the rest of a path -/
def due (log : List Ent) (index : Int) : Int → Str → List Int → Bool
  | _, _, [] => true
  | p, k, a :: r => decide (a < index) && decide (p < a) && ar (en log a) && ((en log a).b == k) && due log index a (nm (en log a)) r
theorem chain_due (log : List Ent) (index : Int) : ∀ (r : List Int) (a : Int),
    (chB (a :: r ++ [index]) && (a :: r).all (fun x => ar (en log x)) && decide ((r.map fun x => (en log x).b) = ((a :: r).map fun x => nm (en log x)).dropLast)) =
    (decide (a < index) && ar (en log a) && due log index a (nm (en log a)) r)
  | [], a => by
    show ((decide (a < index) && true) && (ar (en log a) && true) && decide ([] = [])) = (decide (a < index) && ar (en log a) && true)
    simp
  | b :: r, a => by
    have ih := chain_due log index r b
    have e1 : chB (a :: (b :: r) ++ [index]) = (decide (a < b) && chB (b :: r ++ [index])) := rfl
    have e2 : (a :: b :: r).all (fun x => ar (en log x)) = (ar (en log a) && (b :: r).all (fun x => ar (en log x))) := rfl
    have e3 : decide (((b :: r).map fun x => (en log x).b) = ((a :: b :: r).map fun x => nm (en log x)).dropLast) = (((en log b).b == nm (en log a)) && decide ((r.map fun x => (en log x).b) = ((b :: r).map fun x => nm (en log x)).dropLast)) := by
      show decide (((en log b).b :: r.map fun x => (en log x).b) = nm (en log a) :: ((b :: r).map fun x => nm (en log x)).dropLast) = _
      rw [Bool.eq_iff_iff, decide_eq_true_eq, List.cons.injEq, Bool.and_eq_true_iff, beq_iff_eq, decide_eq_true_eq]
    have e4 : due log index a (nm (en log a)) (b :: r) = (decide (b < index) && decide (a < b) && ar (en log b) && ((en log b).b == nm (en log a)) && due log index b (nm (en log b)) r) := rfl
    rw [e1, e2, e3, e4]
    by_cases ab : a < b
    · by_cases bi : b < index
      · rw [decide_eq_true (show a < index by omega)]
        revert ih
        rw [decide_eq_true bi, decide_eq_true ab]
        generalize chB (b :: r ++ [index]) = x1
        generalize (b :: r).all (fun x => ar (en log x)) = x2
        generalize decide ((r.map fun x => (en log x).b) = ((b :: r).map fun x => nm (en log x)).dropLast) = x3
        generalize due log index b (nm (en log b)) r = x4
        generalize ar (en log b) = x5
        generalize ar (en log a) = x6
        generalize ((en log b).b == nm (en log a)) = x7
        intro ih
        cases x1 <;> cases x2 <;> cases x3 <;> cases x4 <;> cases x5 <;> cases x6 <;> cases x7 <;> simp_all
      · rw [decide_eq_false bi] at ih ⊢
        revert ih
        generalize chB (b :: r ++ [index]) = x1
        generalize (b :: r).all (fun x => ar (en log x)) = x2
        generalize decide ((r.map fun x => (en log x).b) = ((b :: r).map fun x => nm (en log x)).dropLast) = x3
        generalize ar (en log a) = x6
        generalize ((en log b).b == nm (en log a)) = x7
        intro ih
        cases x1 <;> cases x2 <;> cases x3 <;> cases x6 <;> cases x7 <;> simp_all
    · rw [decide_eq_false ab]
      simp
/-- what both ask of the keys of a line -/
def fin (log : List Ent) (index : Nat) (keys : List Str) : Bool := !((log.take index).any fun e => wd e && decide (nm e ∈ keys))
theorem gone_swap (log : List Ent) (index : Nat) (keys : List Str) : (!(keys.any fun x => decide (x ∈ ((log.take index).filter wd).map nm))) = fin log index keys := by
  unfold fin
  congr 1
  rw [Bool.eq_iff_iff, List.any_eq_true, List.any_eq_true]
  constructor
  · rintro ⟨k, hk, h⟩
    obtain ⟨e, he, rfl⟩ := List.mem_map.mp (of_decide_eq_true h)
    obtain ⟨h1, h2⟩ := List.mem_filter.mp he
    exact ⟨e, h1, by rw [h2, decide_eq_true hk]; rfl⟩
  · rintro ⟨e, he, h⟩
    obtain ⟨h1, h2⟩ := Bool.and_eq_true_iff.mp h
    exact ⟨nm e, of_decide_eq_true h2, decide_eq_true (List.mem_map.mpr ⟨e, List.mem_filter.mpr ⟨he, h1⟩, rfl⟩)⟩
def goodP (roots : List Str) (log : List Ent) (index : Nat) (key : Str) : List Int → Bool
  | [] => decide (key ∈ roots) && fin log index [key]
  | a :: r => decide (a < (index : Int)) && ar (en log a) && due log index a (nm (en log a)) r && decide ((en log a).b ∈ roots) &&
    ((nm (en log a) :: r.map fun x => nm (en log x)).getLast (by simp) == key) && fin log index ((en log a).b :: nm (en log a) :: r.map fun x => nm (en log x))

theorem idx_end {α : Type} (xs : List α) (v : α) : idx (xs ++ [v]) (((xs ++ [v]).length : Int) - 1) = .ok v := by
  rw [List.length_append, List.length_singleton, show ((xs.length + 1 : Nat) : Int) - 1 = (xs.length : Int) by omega]
  exact idx_nat (by rw [List.getElem?_append_right (Nat.le_refl _), Nat.sub_self]; rfl)
theorem due_loop {roots : List Str} {log : List Ent} (hlog : ∀ e ∈ log, EOk e) {index : Nat} (hi : index ≤ log.length) {k2 : List Str → Res Bool} {path : List Int} (hp : ∀ a ∈ path, 0 ≤ a) : ∀ (r pre : List Int) (p : Int) (ks : List Str) (k : Str), path = pre ++ [p] ++ r → ks.length + r.length ≤ 10000 →
    m_u_law_due_l2 roots log (index : Int) path k2 ((pyRange 0 (path.length : Int)).drop (pre.length + 1)) (ks ++ [k]) = if due log (index : Int) p k r = true then k2 (ks ++ [k] ++ r.map fun x => nm (en log x)) else .ok false
  | [], pre, p, ks, k, e, _ => by
    have hl : (pyRange 0 (path.length : Int)).length = path.length := by rw [pyRange_len]; omega
    rw [List.drop_eq_nil_of_le (by rw [hl, e]; simp), m_u_law_due_l2, if_pos (show due log (index : Int) p k [] = true from rfl), List.map_nil, List.append_nil]
  | a :: r, pre, p, ks, k, e, hl => by
    have pl : path.length = pre.length + 1 + (r.length + 1) := by rw [e]; simp; omega
    have ga : path[pre.length + 1]? = some a := by
      rw [e, List.getElem?_append_right (by simp)]
      simp
    have gp : path[pre.length]? = some p := by
      rw [e, List.append_assoc, List.getElem?_append_right (Nat.le_refl _), Nat.sub_self]; rfl
    have i1 : idx path ((pre.length + 1 : Nat) : Int) = .ok a := idx_nat ga
    have i0 : idx path (((pre.length + 1 : Nat) : Int) - 1) = .ok p := by
      rw [show ((pre.length + 1 : Nat) : Int) - 1 = (pre.length : Int) by omega]; exact idx_nat gp
    have a0 : 0 ≤ a := hp a (by rw [e]; simp)
    have e4 : due log (index : Int) p k (a :: r) = (decide (a < (index : Int)) && decide (p < a) && ar (en log a) && ((en log a).b == k) && due log (index : Int) a (nm (en log a)) r) := rfl
    rw [pyRange_drop (by omega), m_u_law_due_l2]
    dsimp only
    rw [i1, i0]
    simp only [Res.bind_ok]
    rw [e4]
    by_cases c1 : a < (index : Int)
    · rw [decide_eq_false (show ¬ (index : Int) ≤ a by omega), cond_false, decide_eq_true (show (0 : Int) < ((pre.length + 1 : Nat) : Int) by omega), cond_true, Res.bind_ok]
      by_cases c2 : p < a
      · obtain ⟨ie, me⟩ := en_idx (log := log) a0 (by omega)
        rw [decide_eq_false (show ¬ a ≤ p by omega), cond_false, ie]
        simp only [Res.bind_ok]
        rw [makes_ok (hlog _ me), Res.bind_ok]
        cases c3 : ar (en log a) with
        | false => simp; rfl
        | true =>
          rw [if_pos rfl]
          show (cond false _ _) = _
          rw [cond_false, decide_eq_false (show ¬ ((pre.length + 1 : Nat) : Int) = 0 by omega), cond_false, Res.bind_ok, cond_false, idx_end, Res.bind_ok, cond_true, Res.bind_ok]
          cases c4 : (en log a).b == k with
          | false => simp
          | true =>
            rw [Bool.not_true, cond_false, cond_false]
            have step : ∀ g : List Str → Res Bool, m_u_law_due_k6 (some (nm (en log a))) g (ks ++ [k]) = g (ks ++ [k] ++ [nm (en log a)]) := fun g => by
              unfold m_u_law_due_k6
              show Res.need ((ks ++ [k]).length < 16777216) _ = _
              rw [List.length_cons] at hl
              rw [Res.need_pos (by rw [List.length_append, List.length_singleton]; omega)]
            rw [step, show pre.length + 1 + 1 = (pre ++ [p]).length + 1 by simp]
            rw [due_loop hlog hi hp r (pre ++ [p]) a (ks ++ [k]) (nm (en log a)) (by rw [e]; simp) (by rw [List.length_append, List.length_singleton]; rw [List.length_cons] at hl; omega)]
            simp [c1, c2, List.append_assoc]
      · rw [decide_eq_true (show a ≤ p by omega), cond_true]
        simp [c2]
    · rw [decide_eq_true (show (index : Int) ≤ a by omega), cond_true, Res.bind_ok, cond_true]
      simp [c1]
theorem l8_ok {log : List Ent} {keys : List Str} : ∀ es : List Ent, (∀ e ∈ es, EOk e) → m_u_law_due_l8 keys m_u_law_due_k9 es () = .ok (!(es.any fun e => wd e && decide (nm e ∈ keys)))
  | [], _ => rfl
  | e :: r, h => by
    have he := h e List.mem_cons_self
    have ih := l8_ok (log := log) (keys := keys) r fun z hz => h z (List.mem_cons_of_mem _ hz)
    rw [m_u_law_due_l8]
    dsimp only
    rw [Res.need_pos (by rfl), Res.bind_ok]
    show (cond (wd e) ((((((Res.ok e.c)).bind D.asTu).bind fun (t : (Tu D)) => idx (t).xs (0 : Int)).bind D.asStr).bind fun (t : Str) => Res.ok (decide (t ∈ keys))) (Res.ok false)).bind _ = _
    rw [List.any_cons]
    cases q : wd e with
    | false =>
      rw [cond_false, Res.bind_ok, cond_false, ih]; rfl
    | true =>
      obtain ⟨k, _, hc⟩ := he.one q
      have n : nm e = k := by unfold nm; rw [hc]
      rw [cond_true, hc, n]
      show (Res.ok (decide (k ∈ keys))).bind _ = _
      rw [Res.bind_ok]
      cases decide (k ∈ keys) with
      | true => rfl
      | false => rw [cond_false, ih]; rfl
theorem k10_ok {log : List Ent} (hlog : ∀ e ∈ log, EOk e) {index : Nat} {key : Str} (ks : List Str) (k : Str) : m_u_law_due_k10 log (index : Int) key (ks ++ [k]) = .ok ((k == key) && fin log index (ks ++ [k])) := by
  unfold m_u_law_due_k10
  rw [idx_end, Res.bind_ok, Res.bind_ok]
  cases q : k == key with
  | false => rfl
  | true =>
    rw [Bool.not_true, cond_false]
    simp only [Res.bind_ok]
    rw [cpreP, l8_ok (log := log) _ fun e he => hlog e (List.mem_of_mem_take he)]
    rfl
theorem due_ok {roots : List Str} {log : List Ent} (hlog : ∀ e ∈ log, EOk e) {index : Nat} (hi : index ≤ log.length) {key : Str} {path : List Int} (hp : ∀ a ∈ path, 0 ≤ a) (hl : path.length ≤ 100) : m_u_law_due roots log (index : Int) key path = .ok (goodP roots log index key path) := by
  unfold m_u_law_due
  rw [Res.bind_ok, Res.bind_ok]
  cases path with
  | nil =>
    show cond true _ _ = _
    rw [cond_true, Res.bind_ok]
    show _ = Res.ok (decide (key ∈ roots) && fin log index [key])
    cases q : decide (key ∈ roots) with
    | false => rfl
    | true =>
      rw [Bool.not_true, cond_false, Res.bind_ok]
      unfold m_u_law_due_k1
      rw [Res.need_pos ⟨by show -(2 ^ 62) ≤ (0 : Int); decide, by show (0 : Int) < 2 ^ 62; decide⟩, Res.bind_ok]
      show m_u_law_due_l2 _ _ _ _ _ [] [key] = _
      rw [m_u_law_due_l2]
      have := k10_ok hlog (index := index) (key := key) [] key
      rw [List.nil_append] at this
      rw [this]
      simp
  | cons a r =>
    rw [List.length_cons] at hl
    have a0 : 0 ≤ a := hp a List.mem_cons_self
    rw [decide_eq_false (show ¬ (((a :: r).length : Nat) : Int) = 0 by rw [List.length_cons]; omega), cond_false]
    unfold m_u_law_due_k1
    rw [Res.need_pos ⟨by rw [List.length_cons]; omega, by rw [List.length_cons]; omega⟩, Res.bind_ok]
    have d0 : pyRange 0 (((a :: r).length : Nat) : Int) = (0 : Int) :: (pyRange 0 (((a :: r).length : Nat) : Int)).drop 1 := by
      have := pyRange_drop (n := (a :: r).length) (i := 0) (by rw [List.length_cons]; omega)
      rw [List.drop_zero] at this
      exact this
    rw [d0, m_u_law_due_l2]
    dsimp only
    rw [show idx (a :: r) (0 : Int) = .ok a from idx_nat (j := 0) rfl]
    simp only [Res.bind_ok]
    show _ = Res.ok (decide (a < (index : Int)) && ar (en log a) && due log index a (nm (en log a)) r && decide ((en log a).b ∈ roots) && ((nm (en log a) :: r.map fun x => nm (en log x)).getLast (by simp) == key) && fin log index ((en log a).b :: nm (en log a) :: r.map fun x => nm (en log x)))
    by_cases c1 : a < (index : Int)
    · obtain ⟨ie, me⟩ := en_idx (log := log) a0 (by omega)
      rw [decide_eq_false (show ¬ (index : Int) ≤ a by omega), cond_false, show decide ((0 : Int) < 0) = false from rfl, cond_false, Res.bind_ok, cond_false, ie]
      simp only [Res.bind_ok]
      rw [makes_ok (hlog _ me), Res.bind_ok]
      cases c3 : ar (en log a) with
      | false => simp; rfl
      | true =>
        rw [if_pos rfl]
        show (cond false _ _) = _
        simp only [decide_true, cond_false, cond_true, Res.bind_ok]
        cases c4 : decide ((en log a).b ∈ roots) with
        | false => simp; rfl
        | true =>
          simp only [Bool.not_true, cond_false, cond_true, Res.bind_ok]
          rw [Res.need_pos (by show 0 < 16777216; decide)]
          show m_u_law_due_k6 (some (nm (en log a))) _ [(en log a).b] = _
          have step : ∀ g : List Str → Res Bool, m_u_law_due_k6 (some (nm (en log a))) g [(en log a).b] = g ([(en log a).b] ++ [nm (en log a)]) := fun g => by
            unfold m_u_law_due_k6
            show Res.need (1 < 16777216) _ = _
            rw [Res.need_pos (by decide)]
            try rfl
          rw [step]
          have L := due_loop (roots := roots) (k2 := m_u_law_due_k10 log (index : Int) key) hlog hi hp r [] a [(en log a).b] (nm (en log a)) rfl (by show 1 + _ ≤ _; omega)
          have L : m_u_law_due_l2 roots log (index : Int) (a :: r) (m_u_law_due_k10 log (index : Int) key) ((pyRange 0 (((a :: r).length : Nat) : Int)).drop 1) ([(en log a).b] ++ [nm (en log a)]) = _ := L
          rw [L]
          cases c5 : due log (index : Int) a (nm (en log a)) r with
          | false => simp
          | true =>
            rw [if_pos rfl]
            have sp : [(en log a).b] ++ [nm (en log a)] ++ r.map (fun x => nm (en log x)) = ((en log a).b :: (nm (en log a) :: r.map fun x => nm (en log x)).dropLast) ++ [(nm (en log a) :: r.map fun x => nm (en log x)).getLast (by simp)] := by
              exact congrArg (List.cons (en log a).b) (List.dropLast_concat_getLast (l := nm (en log a) :: r.map fun x => nm (en log x)) (by simp)).symm
            rw [sp, k10_ok hlog, ← sp]
            simp [c1]
    · rw [decide_eq_true (show (index : Int) ≤ a by omega), cond_true, Res.bind_ok, cond_true]
      simp [c1]

theorem compL_fm {α β : Type} {t : α → Res Bool} {e : α → Res β} {w : α → Bool} {g : α → β} : ∀ xs : List α, (∀ x ∈ xs, t x = .ok (w x)) → (∀ x ∈ xs, w x = true → e x = .ok (g x)) → compL t e xs = .ok ((xs.filter w).map g)
  | [], _, _ => rfl
  | x :: r, ht, he => by
    have ih := compL_fm r (fun y hy => ht y (List.mem_cons_of_mem _ hy)) fun y hy => he y (List.mem_cons_of_mem _ hy)
    unfold compL
    rw [ht x List.mem_cons_self, Res.bind_ok]
    cases q : w x with
    | false => rw [cond_false, ih, List.filter_cons_of_neg (by rw [q]; exact Bool.false_ne_true)]
    | true => rw [cond_true, he x List.mem_cons_self q, Res.bind_ok, ih, List.filter_cons_of_pos q]; rfl
theorem chB_lt {index : Int} : ∀ (r : List Int) (a : Int), chB (a :: r ++ [index]) = true → ∀ x ∈ a :: r, x < index
  | [], a, h, x, hx => by
    cases List.mem_singleton.mp hx
    exact of_decide_eq_true (Bool.and_eq_true_iff.mp (show (decide (a < index) && true) = true from h)).1
  | b :: r, a, h, x, hx => by
    obtain ⟨h1, h2⟩ := Bool.and_eq_true_iff.mp (show (decide (a < b) && chB (b :: r ++ [index])) = true from h)
    have ih := chB_lt r b h2
    rcases List.mem_cons.mp hx with rfl | hx
    · have := ih b List.mem_cons_self
      have := of_decide_eq_true h1
      omega
    · exact ih x hx
theorem strs_nice {xs : List Str} (h : ∀ s ∈ xs, s ∈ kys) : nice 1 (toD xs) := nice_lst (n := 0) fun d hd => by
  obtain ⟨s, hs, rfl⟩ := List.mem_map.mp hd
  exact key_nice (h s hs)
theorem pyEq_strs (xs ys : List Str) : pyEq (toD xs) (toD ys) = decide (xs = ys) := by
  have n1 : (toD xs).nob = true := nob_strs xs
  have n2 : (toD ys).nob = true := nob_strs ys
  by_cases h : xs = ys
  · subst h; rw [pyEq_self n1]; simp
  · rw [pyEq_ne n1 n2 fun e => h ?_]; · simp [h]
    have e : xs.map D.str = ys.map D.str := D.lst.inj e
    exact List.map_inj_right (fun a b q => D.str.inj q) |>.mp e
theorem good_ok {roots : List Str} {log : List Ent} (hlog : ∀ e ∈ log, EOk e) (hll : log.length ≤ 100) {index : Nat} (hi : index ≤ log.length) {key : Str} {path : List Int} (hp : ∀ a ∈ path, 0 ≤ a) (hl : path.length ≤ 100) : m_good_path roots log (index : Int) key path = .ok (goodP roots log index key path) := by
  have goneE : (compL (fun (x : Ent) => (Res.ok (x.a == k_WITHDRAW))) (fun (x : Ent) => ((((Res.ok x.c)).bind D.asTu).bind fun (t : (Tu D)) => idx (t).xs (0 : Int)).bind D.asStr) (log.take index)) = .ok (((log.take index).filter wd).map nm) := by
    refine compL_fm (w := wd) (g := nm) _ (fun _ _ => rfl) fun e he hw => ?_
    obtain ⟨k, _, hc⟩ := (hlog e (List.mem_of_mem_take he)).one hw
    unfold nm
    rw [hc]; rfl
  have tl : (log.take index).length ≤ 16777216 := by rw [List.length_take]; omega
  unfold m_good_path
  rw [decide_eq_false (show ¬ (log.length : Int) < (index : Int) by omega), cond_false, Res.need_pos (by rw [List.length_singleton]; omega), Res.bind_ok, Res.need_pos (by simp only [List.length_append, List.length_singleton]; omega)]
  simp only [Res.bind_ok]
  rw [asc_ok (by simp only [List.length_append, List.length_singleton]; omega), Res.bind_ok, Res.bind_ok]
  cases path with
  | nil =>
    have c : chB ([-1] ++ [] ++ [(index : Int)]) = true := by
      show (decide ((-1 : Int) < (index : Int)) && true) = true
      rw [decide_eq_true (by omega)]; rfl
    rw [c, Bool.not_true, cond_false, Res.need_pos (by show 0 ≤ 16777216; decide)]
    show _ = Res.ok (decide (key ∈ roots) && fin log index [key])
    simp only [compL, Res.bind_ok]
    rw [Res.need_pos (by show 0 ≤ 16777216; decide)]
    simp only [List.all_nil, Bool.not_true, Res.bind_ok, cond_false]
    rw [Res.need_pos (by show 0 ≤ 16777216; decide), Res.bind_ok, Res.bind_ok]
    show (Res.ok [key]).bind _ = _
    rw [Res.bind_ok, show idx [key] (0 : Int) = .ok key from idx_nat (j := 0) rfl, Res.bind_ok, Res.bind_ok]
    cases q : decide (key ∈ roots) with
    | false => rfl
    | true =>
      rw [Bool.not_true, cond_false, show idx [key] (-1 : Int) = .ok key from idx_getLast rfl, Res.bind_ok, Res.bind_ok, show (key == key) = true from beq_self_eq_true key, Bool.not_true, cond_false]
      simp only [Res.bind_ok] at goneE ⊢
      rw [show cutL ([] : List Str) (some (1 : Int)) none = [] from rfl, show cutL ([] : List Str) none (some (-1 : Int)) = [] from rfl]
      rw [Res.need_pos ⟨nice_okq (strs_nice (xs := []) (fun _ h => nomatch h)) (by decide), nice_okq (strs_nice (xs := []) (fun _ h => nomatch h)) (by decide)⟩]
      show (Res.ok (!pyEq (toD ([] : List Str)) (toD ([] : List Str)))).bind _ = _
      rw [pyEq_strs, decide_eq_true rfl, Res.bind_ok, Bool.not_true, cond_false, cpreP, Res.need_pos tl, goneE, Res.bind_ok, Res.need_pos (by show 1 ≤ 16777216; decide), compL_map (g := fun (x : Str) => decide (x ∈ ((log.take index).filter wd).map nm)) (fun _ _ => rfl) (fun _ _ => rfl)]
      simp only [Res.bind_ok]
      rw [← gone_swap, List.any_map]
      rfl
  | cons a r =>
    rw [List.length_cons] at hl
    have a0 : 0 ≤ a := hp a List.mem_cons_self
    have c : chB ([-1] ++ (a :: r) ++ [(index : Int)]) = chB (a :: r ++ [(index : Int)]) := by
      show (decide ((-1 : Int) < a) && chB (a :: r ++ [(index : Int)])) = _
      rw [decide_eq_true (by omega)]; rfl
    have G : goodP roots log index key (a :: r) = ((chB (a :: r ++ [(index : Int)]) && (a :: r).all (fun x => ar (en log x)) && decide ((r.map fun x => (en log x).b) = (nm (en log a) :: r.map fun x => nm (en log x)).dropLast)) && decide ((en log a).b ∈ roots) &&
        ((nm (en log a) :: r.map fun x => nm (en log x)).getLast (by simp) == key) && fin log index ((en log a).b :: nm (en log a) :: r.map fun x => nm (en log x))) := by
      have cd : (chB (a :: r ++ [(index : Int)]) && (a :: r).all (fun x => ar (en log x)) && decide ((r.map fun x => (en log x).b) = (nm (en log a) :: r.map fun x => nm (en log x)).dropLast)) = _ := chain_due log (index : Int) r a
      rw [cd]; rfl
    rw [G, c]
    cases c1 : chB (a :: r ++ [(index : Int)]) with
    | false => simp
    | true =>
      have lt := chB_lt r a c1
      have mem : ∀ x ∈ a :: r, en log x ∈ log := fun x hx => (en_idx (hp x hx) (by have := lt x hx; omega)).2
      rw [Bool.not_true, cond_false, Res.need_pos (by rw [List.length_cons]; omega), compL_map (g := en log) (fun _ _ => rfl) (fun x hx => (en_idx (hp x hx) (by have := lt x hx; omega)).1), Res.bind_ok, Res.need_pos (by rw [List.length_map, List.length_cons]; omega), compL_map (g := fun (e : Ent) => decide (e.a ∈ ([k_ADMIT, k_REPLACE] : List Str))) (fun _ _ => rfl) (fun _ _ => rfl)]
      simp only [Res.bind_ok]
      rw [show (((a :: r).map (en log)).map fun (e : Ent) => decide (e.a ∈ ([k_ADMIT, k_REPLACE] : List Str))).all id = (a :: r).all (fun x => ar (en log x)) by rw [List.map_map, List.all_map]; rfl]
      cases c2 : (a :: r).all (fun x => ar (en log x)) with
      | false => simp
      | true =>
        have arx : ∀ x ∈ a :: r, ar (en log x) = true := fun x hx => List.all_eq_true.mp c2 x hx
        have lm : ((a :: r).map (en log)).length ≤ 16777216 := by rw [List.length_map, List.length_cons]; omega
        have mk : compL (fun (_ : Ent) => Res.ok true) (fun (x : Ent) => ((((Res.ok x.c)).bind D.asTu).bind fun (t : (Tu D)) => idx (t).xs (0 : Int)).bind D.asStr) ((a :: r).map (en log)) = .ok (((a :: r).map (en log)).map nm) := by
          refine compL_map (g := nm) (fun _ _ => rfl) fun e he => ?_
          obtain ⟨x, hx, rfl⟩ := List.mem_map.mp he
          obtain ⟨k, y, _, hc⟩ := (hlog _ (mem x hx)).two (arx x hx)
          unfold nm
          rw [hc]; rfl
        rw [Bool.not_true, cond_false, Res.need_pos lm, compL_map (g := fun (e : Ent) => e.b) (fun _ _ => rfl) (fun _ _ => rfl), Res.bind_ok, Res.need_pos lm]
        simp only [Res.bind_ok] at mk ⊢
        rw [mk]
        simp only [Res.bind_ok]
        rw [List.map_map, List.map_map, decide_eq_true (show (0 : Int) < (((a :: r).length : Nat) : Int) by rw [List.length_cons]; omega), cond_true]
        have e1 : (a :: r).map ((fun (e : Ent) => e.b) ∘ en log) = (en log a).b :: r.map fun x => (en log x).b := rfl
        have e2 : (a :: r).map (nm ∘ en log) = nm (en log a) :: r.map fun x => nm (en log x) := rfl
        have e3 : cutL ((en log a).b :: r.map fun x => (en log x).b) none (some (1 : Int)) = [(en log a).b] := cpreP ((en log a).b :: r.map fun x => (en log x).b) 1
        have e4 : cutL ((en log a).b :: r.map fun x => (en log x).b) (some (1 : Int)) none = r.map fun x => (en log x).b := csufP ((en log a).b :: r.map fun x => (en log x).b) 1
        have k1 : ∀ s ∈ r.map (fun x => (en log x).b), s ∈ kys := fun s hs => by
          obtain ⟨x, hx, rfl⟩ := List.mem_map.mp hs
          exact (hlog _ (mem x (List.mem_cons_of_mem _ hx))).b
        have k2 : ∀ s ∈ (nm (en log a) :: r.map fun x => nm (en log x)).dropLast, s ∈ kys := fun s hs => by
          have hs := List.mem_of_mem_take (List.dropLast_eq_take ▸ hs)
          rw [← e2] at hs
          obtain ⟨x, hx, rfl⟩ := List.mem_map.mp hs
          obtain ⟨k, y, hk, hc⟩ := (hlog _ (mem x hx)).two (arx x hx)
          show nm (en log x) ∈ kys
          unfold nm
          rw [hc]; exact hk
        have gl : idx ([(en log a).b] ++ (nm (en log a) :: r.map fun x => nm (en log x))) (-1 : Int) = .ok ((nm (en log a) :: r.map fun x => nm (en log x)).getLast (by simp)) := idx_getLast (by
          rw [List.getLast?_append, List.getLast?_eq_getLast (by simp)]; rfl)
        rw [e1, e2, e3, Res.need_pos (by simp only [List.length_cons, List.length_map, List.length_nil]; omega), Res.bind_ok, show idx ([(en log a).b] ++ (nm (en log a) :: r.map fun x => nm (en log x))) (0 : Int) = .ok (en log a).b from idx_nat (j := 0) rfl, Res.bind_ok, Res.bind_ok, gl, Res.bind_ok, e4, cut_m1, Res.need_pos ⟨nice_okq (strs_nice k1) (by decide), nice_okq (strs_nice k2) (by decide)⟩, pyEq_strs, cpreP, Res.need_pos tl]
        simp only [Res.bind_ok] at goneE ⊢
        rw [goneE]
        simp only [Res.bind_ok]
        rw [Res.need_pos (by simp only [List.length_append, List.length_cons, List.length_map, List.length_nil]; omega), compL_map (g := fun (x : Str) => decide (x ∈ ((log.take index).filter wd).map nm)) (fun _ _ => rfl) (fun _ _ => rfl)]
        simp only [Res.bind_ok]
        rw [← gone_swap, List.any_map]
        rw [show ([(en log a).b] ++ (nm (en log a) :: r.map fun x => nm (en log x))) = (en log a).b :: nm (en log a) :: r.map fun x => nm (en log x) from rfl]
        rw [show (id ∘ fun (x : Str) => decide (x ∈ ((log.take index).filter wd).map nm)) = fun (x : Str) => decide (x ∈ ((log.take index).filter wd).map nm) from rfl]
        generalize (!((en log a).b :: nm (en log a) :: r.map fun x => nm (en log x)).any fun x => decide (x ∈ ((log.take index).filter wd).map nm)) = x1
        generalize ((nm (en log a) :: r.map fun x => nm (en log x)).getLast _ == key) = x2
        generalize decide ((en log a).b ∈ roots) = x3
        generalize decide ((r.map fun x => (en log x).b) = (nm (en log a) :: r.map fun x => nm (en log x)).dropLast) = x4
        cases x1 <;> cases x2 <;> cases x3 <;> cases x4 <;> rfl

/-! ### k70: drawn paths, the beginnings, the law -/
theorem opt_okq {o : Option Str} {k : Str} (h : ∀ s, o = some s → s ∈ kys) (hk : k ∈ kys) : (toD o).okq = true ∧ (toD k).okq = true := ⟨by
  cases o with
  | none => rfl
  | some s => exact nice_okq (key_nice (n := 0) (h s rfl)) (by decide), nice_okq (key_nice (n := 0) hk) (by decide)⟩
theorem lead_l3 {log : List Ent} (hlog : ∀ e ∈ log, EOk e) {key : Str} (hk : key ∈ kys) {k3 : Int → Res (List Int)} : ∀ (ps : List Int) (f : Int), (∀ p ∈ ps, 0 ≤ p ∧ p < log.length) → (f = -1 ∨ (0 ≤ f ∧ f < log.length)) → ∃ g, m_u_law_lead_l3 log key k3 ps f = k3 g ∧ (g = -1 ∨ (0 ≤ g ∧ g < log.length))
  | [], f, _, hf => ⟨f, by rw [m_u_law_lead_l3], hf⟩
  | p :: r, f, hp, hf => by
    obtain ⟨p0, p1⟩ := hp p List.mem_cons_self
    obtain ⟨ie, me⟩ := en_idx (log := log) p0 p1
    have hr : ∀ q ∈ r, 0 ≤ q ∧ q < log.length := fun q hq => hp q (List.mem_cons_of_mem _ hq)
    rw [m_u_law_lead_l3]
    dsimp only
    rw [ie]
    simp only [Res.bind_ok]
    rw [makes_ok (hlog _ me), Res.bind_ok, Res.need_pos (opt_okq (fun s hs => by
      cases q : ar (en log p) with
      | false => rw [q] at hs; cases hs
      | true =>
        rw [q, if_pos rfl] at hs
        obtain ⟨k, x, hk, hc⟩ := (hlog _ me).two q
        cases hs
        unfold nm
        rw [hc]; exact hk) hk), Res.bind_ok]
    cases pyEq (toD (if ar (en log p) = true then some (nm (en log p)) else none)) (toD key) with
    | true => rw [cond_true]; exact lead_l3 hlog hk r p hr (.inr ⟨p0, p1⟩)
    | false => rw [cond_false]; exact lead_l3 hlog hk r f hr hf
theorem lead_l1 {log : List Ent} (hlog : ∀ e ∈ log, EOk e) (hll : log.length ≤ 100) {roots : List Str} : ∀ (ts : List Int) (key : Str) (path : List Int) (at_ : Int), key ∈ kys → (0 ≤ at_ ∧ at_ ≤ log.length) → (∀ a ∈ path, 0 ≤ a) → path.length + ts.length ≤ 50 →
    ∃ out, m_u_law_lead_l1 log roots m_u_law_lead_k6 ts (key, path, at_) = .ok out ∧ (∀ a ∈ out, 0 ≤ a) ∧ out.length ≤ 50
  | [], key, path, at_, _, _, hp, hl => ⟨path, by rw [m_u_law_lead_l1]; rfl, hp, by simpa using hl⟩
  | t :: r, key, path, at_, hk, ha, hp, hl => by
    rw [List.length_cons] at hl
    rw [m_u_law_lead_l1, Res.bind_ok]
    cases decide (key ∈ roots) with
    | true => exact ⟨path, by rw [cond_true]; rfl, hp, by omega⟩
    | false =>
      rw [cond_false, Res.bind_ok, Res.need_pos ⟨by omega, by omega⟩, Res.bind_ok]
      obtain ⟨g, e, hg⟩ := lead_l3 hlog hk (k3 := m_u_law_lead_k5 log key path at_ (m_u_law_lead_l1 log roots m_u_law_lead_k6 r) m_u_law_lead_k6) (pyRange 0 at_) (-1) (fun p hq => by
        have h0 := pyRange_nonneg hq
        obtain ⟨i, hi, rfl⟩ := List.mem_map.mp hq
        have := List.mem_range.mp hi
        omega) (.inl rfl)
      rw [e]
      unfold m_u_law_lead_k5
      rw [Res.bind_ok]
      rcases hg with rfl | ⟨g0, g1⟩
      · exact ⟨path, rfl, hp, by omega⟩
      · obtain ⟨ie, me⟩ := en_idx (log := log) g0 g1
        rw [decide_eq_false (by omega), cond_false, Res.need_pos (by rw [List.length_singleton]; omega), Res.bind_ok, Res.bind_ok, ie]
        simp only [Res.bind_ok]
        exact lead_l1 hlog hll r (en log g).b ([g] ++ path) g (hlog _ me).b ⟨g0, by omega⟩ (fun a ha => by
          rcases List.mem_cons.mp ha with rfl | ha
          · exact g0
          · exact hp a ha) (by rw [List.length_append, List.length_singleton]; omega)
theorem lead_ok {log : List Ent} (hlog : ∀ e ∈ log, EOk e) (hll : log.length ≤ 100) {roots : List Str} {key : Str} (hk : key ∈ kys) : ∃ out, m_u_law_lead log key roots = .ok out ∧ (∀ a ∈ out, 0 ≤ a) ∧ out.length ≤ 50 := by
  unfold m_u_law_lead
  rw [Res.bind_ok, Res.bind_ok, Res.need_pos ⟨by decide, by decide⟩, Res.bind_ok]
  exact lead_l1 hlog hll (pyRange 0 8) key [] log.length hk ⟨by omega, by omega⟩ (fun _ h => nomatch h) (by decide)
theorem chg_ok {path : List Int} (hp : ∀ a ∈ path, 0 ≤ a) (hl : path.length ≤ 50) {c : Int} (hc : 0 ≤ c) : ∃ out, m_u_law_changed path c = .ok out ∧ (∀ a ∈ out, 0 ≤ a) ∧ out.length ≤ 52 := by
  have k2 : ∀ (how : Int) (out : List Int), (∀ a ∈ out, 0 ≤ a) → out.length ≤ 51 → ∃ o, m_u_law_changed_k2 c how out = .ok o ∧ (∀ a ∈ o, 0 ≤ a) ∧ o.length ≤ 52 := by
    intro how out ho hl
    unfold m_u_law_changed_k2 m_u_law_changed_k3
    rw [Res.bind_ok]
    by_cases z : how = 2
    · have pl : (0 : Int) < (out.length : Int) + 1 := by omega
      have a0 := Int.emod_nonneg (c / 6) (Int.ne_of_gt pl)
      have a1 := Int.emod_lt_of_pos (c / 6) pl
      rw [decide_eq_true z, cond_true, Res.need_pos pl, Res.bind_ok, Res.bind_ok, Res.need_pos ⟨by omega, a0, by omega⟩]
      refine ⟨_, rfl, fun a ha => ?_, ?_⟩
      · rcases List.mem_append.mp ha with ha | ha
        · rcases List.mem_append.mp ha with ha | ha
          · exact ho a (List.mem_of_mem_take ha)
          · cases List.mem_singleton.mp ha; omega
        · exact ho a (List.mem_of_mem_drop ha)
      · simp only [List.length_append, List.length_take, List.length_drop, List.length_singleton]; omega
    · rw [decide_eq_false z, cond_false]; exact ⟨out, rfl, ho, by omega⟩
  have k1 : ∀ (how : Int) (out : List Int), (∀ a ∈ out, 0 ≤ a) → out.length ≤ 51 → ∃ o, m_u_law_changed_k1 c how out = .ok o ∧ (∀ a ∈ o, 0 ≤ a) ∧ o.length ≤ 52 := by
    intro how out ho hl
    unfold m_u_law_changed_k1
    by_cases z : how = 1
    · rw [decide_eq_true z, cond_true, Res.bind_ok]
      by_cases y : (0 : Int) < (out.length : Int)
      · have a0 := Int.emod_nonneg (c / 6) (Int.ne_of_gt y)
        have a1 := Int.emod_lt_of_pos (c / 6) y
        rw [decide_eq_true y, cond_true, Res.need_pos y, Res.bind_ok, Res.need_pos (by omega)]
        obtain ⟨j, hj⟩ := Int.eq_ofNat_of_zero_le a0
        have ix : ixN out.length (c / 6 % (out.length : Int)) = some j := by
          unfold ixN
          rw [if_pos a0, if_pos a1, hj]; simp
        rw [ix]
        dsimp only
        exact k2 how _ (fun a ha => ho a (List.mem_of_mem_eraseIdx ha)) (by
          have := List.length_eraseIdx_le out j
          omega)
      · rw [decide_eq_false y, cond_false]; exact k2 how out ho hl
    · rw [decide_eq_false z, cond_false, Res.bind_ok, cond_false]; exact k2 how out ho hl
  unfold m_u_law_changed
  rw [Res.bind_ok, Res.bind_ok]
  by_cases z : c % 6 = 0
  · rw [decide_eq_true z, cond_true, Res.bind_ok]
    by_cases y : (0 : Int) < (path.length : Int)
    · have a0 := Int.emod_nonneg (c / 6) (Int.ne_of_gt y)
      have a1 := Int.emod_lt_of_pos (c / 6) y
      rw [decide_eq_true y, cond_true, Res.bind_ok, Res.need_pos y, Res.bind_ok]
      obtain ⟨j, hj⟩ := Int.eq_ofNat_of_zero_le a0
      have ix : ixN path.length (c / 6 % (path.length : Int)) = some j := by
        unfold ixN
        rw [if_pos a0, if_pos a1, hj]; simp
      rw [ix]
      dsimp only
      unfold m_u_law_changed_k4
      refine k1 _ _ (fun a ha => ?_) (by rw [List.length_set]; omega)
      rcases List.mem_or_eq_of_mem_set ha with ha | ha
      · exact hp a ha
      · rw [ha]; omega
    · rw [decide_eq_false y, cond_false]; exact k1 _ _ hp (by omega)
  · rw [decide_eq_false z, cond_false, Res.bind_ok, cond_false]; exact k1 _ _ hp (by omega)
/-- how many are equal at the beginning -/
def cnt : List Ent → List Ent → Nat
  | x :: r, y :: s => if pyEq (toD x) (toD y) = true then 1 + cnt r s else 0
  | _, _ => 0
theorem cnt_app : ∀ (xs ys zs : List Ent), xs.length ≤ ys.length → cnt xs (ys ++ zs) = cnt xs ys
  | [], ys, zs, _ => by
    cases ys with
    | nil => cases zs <;> rfl
    | cons y s => rfl
  | x :: r, [], zs, h => by simp at h
  | x :: r, y :: s, zs, h => by
    show (if pyEq (toD x) (toD y) = true then 1 + cnt r (s ++ zs) else 0) = (if pyEq (toD x) (toD y) = true then 1 + cnt r s else 0)
    rw [cnt_app r s zs (by simpa using h)]
theorem com_loop : ∀ (xs ys : List Ent) (c : Int), (∀ e ∈ xs, EOk e) → (∀ e ∈ ys, EOk e) → m_common_beginning_l1 m_common_beginning_k3 (List.zipWith T2.mk xs ys) c = .ok (c + (cnt xs ys : Int))
  | [], ys, c, _, _ => by
    show m_common_beginning_l1 m_common_beginning_k3 [] c = _
    rw [m_common_beginning_l1]
    show Res.ok c = Res.ok (c + (((cnt [] ys : Nat)) : Int))
    have : cnt [] ys = 0 := by cases ys <;> rfl
    rw [this]; simp
  | x :: r, [], c, _, _ => by
    show m_common_beginning_l1 m_common_beginning_k3 [] c = _
    rw [m_common_beginning_l1]
    show Res.ok c = Res.ok (c + (((0 : Nat)) : Int))
    simp
  | x :: r, y :: s, c, hx, hy => by
    rw [List.zipWith_cons_cons, m_common_beginning_l1]
    dsimp only
    rw [Res.need_pos ⟨nice_okq (hx x List.mem_cons_self).q (by decide), nice_okq (hy y List.mem_cons_self).q (by decide)⟩, Res.bind_ok]
    show _ = Res.ok (c + (((if pyEq (toD x) (toD y) = true then 1 + cnt r s else 0 : Nat)) : Int))
    cases pyEq (toD x) (toD y) with
    | false => simp
    | true =>
      rw [Bool.not_true, cond_false, Res.bind_ok, if_pos rfl, com_loop r s (c + 1) (fun e he => hx e (List.mem_cons_of_mem _ he)) fun e he => hy e (List.mem_cons_of_mem _ he)]
      congr 1; omega
theorem com_ok {xs ys : List Ent} (hx : ∀ e ∈ xs, EOk e) (hy : ∀ e ∈ ys, EOk e) : m_common_beginning xs ys = .ok (cnt xs ys : Int) := by
  unfold m_common_beginning
  rw [Res.bind_ok, Res.bind_ok, com_loop xs ys 0 hx hy, Int.zero_add]
theorem l4_ok {log other : List Ent} (hx : ∀ e ∈ log, EOk e) (hy : ∀ e ∈ other, EOk e) (hl : other.length = log.length) {k4 : Int → Res Bool} : ∀ (m i : Nat) (d : Int), i + m = log.length → m_law_l4 log other k4 ((pyRange 0 (log.length : Int)).drop i) d = k4 (d + (cnt (log.drop i) (other.drop i) : Int))
  | 0, i, d, h => by
    have pl : (pyRange 0 (log.length : Int)).length = log.length := by rw [pyRange_len]; omega
    rw [List.drop_eq_nil_of_le (by omega), m_law_l4, List.drop_eq_nil_of_le (show log.length ≤ i by omega)]
    have : cnt [] (other.drop i) = 0 := by cases other.drop i <;> rfl
    rw [this]; simp
  | m + 1, i, d, h => by
    have e1 : log.drop i = log[i]'(by omega) :: log.drop (i + 1) := List.drop_eq_getElem_cons (by omega)
    have e2 : other.drop i = other[i]'(by omega) :: other.drop (i + 1) := List.drop_eq_getElem_cons (by omega)
    rw [pyRange_drop (by omega), m_law_l4]
    dsimp only
    rw [idx_nat (List.getElem?_eq_getElem (show i < log.length by omega)), idx_nat (List.getElem?_eq_getElem (show i < other.length by omega)), Res.bind_ok, Res.bind_ok, Res.need_pos ⟨nice_okq (hx _ (List.getElem_mem _)).q (by decide), nice_okq (hy _ (List.getElem_mem _)).q (by decide)⟩, Res.bind_ok, e1, e2]
    show _ = k4 (d + (((if pyEq (toD (log[i]'(by omega))) (toD (other[i]'(by omega))) = true then 1 + cnt (log.drop (i + 1)) (other.drop (i + 1)) else 0 : Nat)) : Int))
    cases pyEq (toD (log[i]'(by omega))) (toD (other[i]'(by omega))) with
    | false => simp
    | true =>
      rw [Bool.not_true, cond_false, Res.bind_ok, if_pos rfl, l4_ok hx hy hl m (i + 1) (d + 1) (by omega)]
      congr 1; omega
theorem k3_ok {log other : List Ent} (hx : ∀ e ∈ log, EOk e) (hy : ∀ e ∈ other, EOk e) (hl : other.length = log.length) (hll : log.length ≤ 100) (at_ : Int) : m_law_k3 log at_ other = .ok true := by
  unfold m_law_k3
  rw [Res.bind_ok, show min ((log.length : Nat) : Int) ((other.length : Nat) : Int) = (log.length : Int) by omega, Res.need_pos ⟨by omega, by omega⟩, Res.bind_ok]
  have := l4_ok hx hy hl (k4 := m_law_k6 log other at_) log.length 0 0 (by omega)
  rw [List.drop_zero, List.drop_zero, List.drop_zero] at this
  rw [this, Int.zero_add]
  unfold m_law_k6
  rw [Res.need_pos (by omega)]
  simp only [Res.bind_ok]
  rw [com_ok hx fun e he => (List.mem_append.mp he).elim (hy e) (hx e), cnt_app _ _ _ (by omega), Res.bind_ok, decide_eq_true rfl]
  rfl
theorem l70_step (ns : Ro Int) {log : List Ent} (hlog : ∀ e ∈ log, EOk e) (hll : log.length ≤ 100) {roots : List Str} (k1 : Unit → Res Bool) {x : Int} (x0 : 0 ≤ x) (r : List Int) : m_law_l1 ns log roots [toD log, toD roots] k1 (x :: r) () = m_law_l1 ns log roots [toD log, toD roots] k1 r () := by
  obtain ⟨c, d⟩ := cell_ex ns (show (0 : Int) ≤ 22 + x by omega)
  obtain ⟨key, ek, hk⟩ := key_ok ((c.natAbs : Int) / 300)
  have pl : (0 : Int) < (log.length : Int) + 1 := by omega
  have i0 := Int.emod_nonneg ((c.natAbs : Int) / 11) (Int.ne_of_gt pl)
  have i1 := Int.emod_lt_of_pos ((c.natAbs : Int) / 11) pl
  have ix : ∃ i : Nat, i ≤ log.length ∧ idx ([(log.length : Int), (c.natAbs : Int) / 11 % ((log.length : Int) + 1)] : List Int) ((c.natAbs : Int) % 2) = .ok (i : Int) := by
    obtain ⟨j, hj⟩ := Int.eq_ofNat_of_zero_le i0
    rw [hj]
    have h0 := Int.emod_nonneg (c.natAbs : Int) (show (2 : Int) ≠ 0 by decide)
    have h1 := Int.emod_lt_of_pos (c.natAbs : Int) (show (0 : Int) < 2 by decide)
    generalize (c.natAbs : Int) % 2 = z at *
    rcases (show z = 0 ∨ z = 1 by omega) with rfl | rfl
    · exact ⟨log.length, Nat.le_refl _, idx_nat (j := 0) rfl⟩
    · exact ⟨j, by omega, idx_nat (j := 1) rfl⟩
  obtain ⟨i, hi, ix⟩ := ix
  have htk : ∀ e ∈ log.take i, EOk e := fun e he => hlog e (List.mem_of_mem_take he)
  obtain ⟨lead, el, l0, ll⟩ := lead_ok (roots := roots) htk (by rw [List.length_take]; omega) hk
  obtain ⟨path, ep, p0, p1⟩ := chg_ok l0 ll (c := (c.natAbs : Int) / 3000) (by omega)
  have g := good_ok (roots := roots) hlog hll hi (key := key) p0 (by omega)
  have u := due_ok (roots := roots) hlog hi (key := key) p0 (by omega)
  have s1 : D.asStrs (toD roots) = .ok roots := mapR_toD (f := D.asStr) (fun _ => rfl) roots
  have s2 : D.asS2s (toD log) = .ok log := mapR_toD (f := D.asS2) (fun _ => rfl) log
  rw [m_law_l1]
  dsimp only
  rw [d]
  simp only [Res.bind_ok]
  rw [Res.need_pos pl]
  simp only [Res.bind_ok]
  rw [ix, Res.bind_ok, ek, Res.bind_ok, cpreP, el]
  simp only [Res.bind_ok]
  rw [ep, Res.bind_ok, show idx [toD log, toD roots] (1 : Int) = .ok (toD roots) from idx_nat (j := 1) rfl, show idx [toD log, toD roots] (0 : Int) = .ok (toD log) from idx_nat (j := 0) rfl]
  simp only [Res.bind_ok]
  rw [s1, s2]
  simp only [Res.bind_ok]
  rw [g, Res.bind_ok, Res.need_pos (by rfl), Res.bind_ok, Res.bind_ok]
  rw [show isI "bool" (toD (goodP roots log i key path)) = true from rfl, Bool.not_true, cond_false, u, Res.bind_ok, Res.bind_ok, beq_self_eq_true]
  rfl
theorem k8_ok (ns : Ro Int) {log : List Ent} (hlog : ∀ e ∈ log, EOk e) (hll : log.length ≤ 100) {roots : List Str} (hr : ∀ s ∈ roots, s ∈ kys) : m_law_k8 ns log roots [toD log, toD roots] () = .ok true := by
  obtain ⟨c, d⟩ := cell_ex ns (show (0 : Int) ≤ 30 by decide)
  have n : nice 11 (toD ([toD log, toD roots] : List D)) := nice_lst (nice_cons (nice_lst (n := 9) fun z hz => by
    obtain ⟨e, he, rfl⟩ := List.mem_map.mp hz
    exact (hlog e he).q) (nice_cons (nice_mono (strs_nice hr) (by decide)) nice_nil))
  unfold m_law_k8
  rw [Res.need_pos ⟨nice_okq n (by decide), nice_okq n (by decide)⟩, Res.bind_ok, nice_eq n, Bool.not_true, cond_false, Res.bind_ok, d]
  simp only [Res.bind_ok]
  by_cases z : (c.natAbs : Int) % 21 < (log.length : Int)
  · obtain ⟨j, hj⟩ := Int.eq_ofNat_of_zero_le (show 0 ≤ (c.natAbs : Int) % 21 by omega)
    have ix : ixN log.length ((c.natAbs : Int) % 21) = some j := by
      unfold ixN
      rw [if_pos (by omega), if_pos z, hj]; simp
    rw [decide_eq_true z, cond_true, ix]
    dsimp only
    unfold m_law_k7
    refine k3_ok hlog (fun e he => ?_) (List.length_set ..) hll _
    rcases List.mem_or_eq_of_mem_set he with he | he
    · exact hlog e he
    · rw [he]
      exact eok_mk lits.2.2.2.1 (by decide +kernel) (nice_mono (nice_tup (n := 1) (nice_cons (nice_tup (n := 0) (nice_cons (nice_int _ _) (nice_cons (nice_int _ _) nice_nil))) nice_nil)) (by decide)) (nice_mono (nice_tup (n := 0) nice_nil) (by decide)) (fun h => by rw [no_ar.2] at h; cases h) fun h => by rw [no_w.2.2] at h; cases h
  · rw [decide_eq_false z, cond_false]
    exact k3_ok hlog hlog rfl hll _
theorem compL_all {α β : Type} {el : α → Res β} {R : β → Prop} : ∀ xs : List α, (∀ x ∈ xs, ∃ y, el x = .ok y ∧ R y) → ∃ ys, compL (fun _ => Res.ok true) el xs = .ok ys ∧ (∀ y ∈ ys, R y) ∧ ys.length = xs.length
  | [], _ => ⟨[], rfl, (fun _ h => nomatch h), rfl⟩
  | x :: r, h => by
    obtain ⟨y, e, ry⟩ := h x List.mem_cons_self
    obtain ⟨ys, e2, r2, l2⟩ := compL_all r fun z hz => h z (List.mem_cons_of_mem _ hz)
    refine ⟨y :: ys, ?_, fun z hz => ?_, by rw [List.length_cons, List.length_cons, l2]⟩
    · unfold compL
      rw [e, Res.bind_ok, cond_true, Res.bind_ok, e2]; rfl
    · rcases List.mem_cons.mp hz with rfl | hz
      · exact ry
      · exact r2 z hz
theorem law_true (ns : Ro Int) (_ : ns.xs.length ≤ 63) (_ : ∀ i ∈ ns.xs, Builtin.Int.intBits i ≤ 1048576) : m_law ns = .ok true := by
  obtain ⟨c0, d0⟩ := cell_ex ns (show (0 : Int) ≤ 0 by decide)
  obtain ⟨c21, d21⟩ := cell_ex ns (show (0 : Int) ≤ 21 by decide)
  have rl : (pyRange 0 (c0 % 21)).length ≤ 21 := by rw [pyRange_len]; omega
  have rl2 : (pyRange 0 (1 + c21 % 3)).length ≤ 4 := by rw [pyRange_len]; omega
  obtain ⟨log, eL, hL, lL⟩ := compL_all (R := EOk) (el := fun (x : Int) => (((((m_u_law_cell ns ((1 : Int) + x)).noexc).bind fun a => Res.ok (a, ())).bind fun p => Res.ok (Int.natAbs p.1 : Int)).bind fun a => Res.ok (a, ())).bind fun p => (m_u_law_entry p.1).noexc) (pyRange 0 (c0 % 21)) (fun x hx => by
    have x0 := pyRange_nonneg hx
    obtain ⟨c, d⟩ := cell_ex ns (show (0 : Int) ≤ 1 + x by omega)
    obtain ⟨e, ee, he⟩ := entry_ok (c.natAbs : Int)
    refine ⟨e, ?_, he⟩
    rw [d]
    show (m_u_law_entry (c.natAbs : Int)).noexc = _
    rw [ee]; rfl)
  obtain ⟨roots, eR, hR, _⟩ := compL_all (R := fun s => s ∈ kys) (el := fun (x : Int) => (m_u_law_key x).noexc) (pyRange 0 (1 + c21 % 3)) (fun x hx => by
    obtain ⟨s, e, hs⟩ := key_ok x
    exact ⟨s, by rw [e]; rfl, hs⟩)
  have hll : log.length ≤ 100 := by omega
  unfold m_law
  rw [d0, d21]
  simp only [Res.bind_ok]
  rw [Res.need_pos ⟨by omega, by omega⟩, Res.bind_ok, Res.need_pos (by omega)]
  try simp only [Res.bind_ok] at eL
  try simp only [Res.bind_ok]
  rw [eL, Res.bind_ok, Res.need_pos ⟨by omega, by omega⟩, Res.bind_ok, Res.need_pos (by omega), eR, Res.bind_ok, Res.need_pos ⟨by decide, by decide⟩, Res.bind_ok]
  rw [show pyRange 0 8 = [0, 1, 2, 3, 4, 5, 6, 7] from rfl]
  rw [l70_step ns hL hll _ (by decide), l70_step ns hL hll _ (by decide), l70_step ns hL hll _ (by decide), l70_step ns hL hll _ (by decide), l70_step ns hL hll _ (by decide), l70_step ns hL hll _ (by decide), l70_step ns hL hll _ (by decide), l70_step ns hL hll _ (by decide), m_law_l1]
  exact k8_ok ns hL hll hR
end Mi
open PySem PySem.W PySem.Calls PyProof.Rows
theorem PySem.Challenge.cw_curveseal_k70_good_paths_holds : PySem.Challenge.rw_curveseal_k70_good_paths.Holds := by
  w_on; o_law
  refine Mi.head_pieces (r := OpenLaw.row PySem.Challenge.rw_curveseal_k70_good_paths) (q := view (OpenLaw.row PySem.Challenge.rw_curveseal_k70_good_paths).prog [16]) (H := Mi.hk) (ob := Mi.ob) (N := 20000000) (k := Mi.fuelQ) (x := Mi.S_x) (s' := Mi.S_f) (loose := (["good_path", "_ascends", "common_beginning", "_law_cell", "_law_twice", "_law_key", "_law_entry", "_law_makes", "_law_lead", "_law_changed", "_law_due", "ADMIT", "REPLACE", "WITHDRAW"] : List Str)) (d := HandSHeadRun.topDef (OpenLaw.row PySem.Challenge.rw_curveseal_k70_good_paths).prog 16) (kwd := []) Mi.ob_eq (by kernel_rfl) Mi.runw_ Mi.lk1_ Mi.lk2_ Mi.lk3_ (by kernel_rfl) (by kernel_rfl) (by kernel_rfl) (by rfl) (by first | assumption | decide +kernel) (by decide +kernel) ⟨rfl, rfl, rfl, rfl, rfl, by decide +kernel⟩ ?hw ?hc
  case hw => w_witness2
  case hc =>
    refine Mi.walk_end (l := PySem.Challenge.rw_curveseal_k70_good_paths) (n := 63) (k := 3) (x := "script") (m := Mi.m_law) rfl (by decide) (by kernel_rfl) ⟨rfl, by decide, by decide⟩ ?F (fun ns h1 h2 => Mi.law_true ⟨ns⟩ h1 h2)
    intro w mg fa h Y G hmg0
    obtain ⟨K, KX, c⟩ := Y
    have hmg : mg ("law" : PySem.Str) = some (.ref fa) := by
      have e : (HandSHeadRun.topDef (OpenLaw.row PySem.Challenge.rw_curveseal_k70_good_paths).prog 16).name = ("law" : PySem.Str) := by kernel_rfl
      rw [← e]
      exact hmg0
    have T := Mi.facts_of KX G c
    have ea := hmg.symm.trans T.g_law
    cases ea
    obtain ⟨fd, FL⟩ := T.d_law
    have b := L2.FunD.bindsA (ps := ["script"]) FL fun _ _ _ _ _ _ us hl => match us, hl with | [_], _ => rfl
    exact ⟨K, fd, KX, fun s u => b s [u] rfl, fun base _ _ => Mi.ok_law T FL⟩
