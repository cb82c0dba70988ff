import PyProof.Rows.All
import Wide.All
import OpenK.AllK
import Wide.FinOn
import HandS.Base
import HandS.Call
import HandS.List
import HandS.Comp
import HandS.Ends
import HandS.Exc
import HandS.ExcOwn
import HandS.TryOnly
import HandS.ExcIs
import HandS.IsInst
import HandS.FStr
import HandS.RaiseMore
import HandS.Words
import HandS.WordsList
import HandS.WordsExc
import HandS.WideBits
import HandS.Iter
import HandS.Text
import HandS.Evl
import HandS.Head0
import HandS.Head1
import HandS.Head2
import HandS.HeadEnd
import HandS.HeadHook1
import HandS.HeadHook2
import HandS.HeadHook4
import HandS.EndBits
import HandS.Style
import KE.KSuper
import HandS.More
import HandS.Head3
import Wide.Once
import PySem.Challenge.RW_curveseal_k13_long_multiples
set_option Elab.async false
set_option linter.all false
set_option maxRecDepth 100000
set_option autoImplicit false
set_option maxHeartbeats 4000000
set_option maxHeartbeats 1000000
namespace Mi
open PySem PySem.Spec L2
open Evl (Ex)

/-! ### data -/
inductive D where
  | non | bl (b : Bool) | int (i : Int) | str (s : Str) | ty (n : String)
  | tup (xs : List D) | lst (xs : List D) | obj (c : Str) (ks : List Str) (ds : List D) | ro (xs : List D) | dct (ks : List Str) (ds : List D)

class ToD (α : Type) where
  d : α → D
abbrev toD {α : Type} [ToD α] (x : α) : D := ToD.d x
instance : ToD D := ⟨fun x => x⟩
instance : ToD Int := ⟨D.int⟩
instance : ToD Bool := ⟨D.bl⟩
instance : ToD Unit := ⟨fun _ => .non⟩
instance : ToD Str := ⟨D.str⟩
instance {α : Type} [ToD α] : ToD (List α) := ⟨fun xs => .lst (xs.map ToD.d)⟩
instance {α : Type} [ToD α] : ToD (Option α) := ⟨fun o => match o with | none => .non | some x => ToD.d x⟩
structure T1 (α : Type) where
  a : α
structure T2 (α β : Type) where
  a : α
  b : β
structure T3 (α β γ : Type) where
  a : α
  b : β
  c : γ
structure T4 (α β γ δ : Type) where
  a : α
  b : β
  c : γ
  e : δ
structure Ro (α : Type) where
  xs : List α
structure Tu (α : Type) where
  xs : List α
instance {α : Type} [ToD α] : ToD (T1 α) := ⟨fun x => .tup [ToD.d x.a]⟩
instance {α β : Type} [ToD α] [ToD β] : ToD (T2 α β) := ⟨fun x => .tup [ToD.d x.a, ToD.d x.b]⟩
instance {α β γ : Type} [ToD α] [ToD β] [ToD γ] : ToD (T3 α β γ) := ⟨fun x => .tup [ToD.d x.a, ToD.d x.b, ToD.d x.c]⟩
instance {α β γ δ : Type} [ToD α] [ToD β] [ToD γ] [ToD δ] : ToD (T4 α β γ δ) := ⟨fun x => .tup [ToD.d x.a, ToD.d x.b, ToD.d x.c, ToD.d x.e]⟩
instance {α : Type} [ToD α] : ToD (Ro α) := ⟨fun x => .ro (x.xs.map ToD.d)⟩
instance {α : Type} [ToD α] : ToD (Tu α) := ⟨fun x => .tup (x.xs.map ToD.d)⟩

mutual
def Rep (K : PySem.W.Frag) (F : Hp) : D → V → Prop
  | .non, v => v = .non
  | .bl b, v => v = .bl b
  | .int i, v => v = .int i
  | .str s, v => v = .str s
  | .ty n, v => v = .ty n
  | .tup ds, v => ∃ a vs, v = .ref a ∧ SqT K F a vs ∧ Reps K F ds vs
  | .lst ds, v => ∃ a vs, v = .ref a ∧ F a = some (.lst vs) ∧ Reps K F ds vs
  | .obj c ks ds, v => ∃ a dx vs, v = .ref a ∧ F a = some (.ins (He.ga K c) dx (ks.zip vs)) ∧ ks.length = vs.length ∧ Reps K F ds vs
  | .ro ds, v => ∃ a vs, v = .ref a ∧ SqL K F a vs ∧ Reps K F ds vs
  | .dct ks ds, v => ∃ a vs, v = .ref a ∧ F a = some (.dK ((ks.map Sum.inr).zip vs)) ∧ ks.length = vs.length ∧ Reps K F ds vs ∧ ks.Nodup
def Reps (K : PySem.W.Frag) (F : Hp) : List D → List V → Prop
  | [], vs => vs = []
  | d :: ds, vs => ∃ v r, vs = v :: r ∧ Rep K F d v ∧ Reps K F ds r
end

theorem sq_ex {K : PySem.W.Frag} {F H : Hp} {a : Addr} {xs : List V} (e : Ex F H) (h : F a = some (.lst xs)) : SqL K H a xs := Or.inl (Or.inl (e _ _ h))
mutual
theorem Rep.mono {K : PySem.W.Frag} {F F' : Hp} (e : Ex F F') : ∀ (d : D) (v : V), Rep K F d v → Rep K F' d v
  | .non, v, h => h
  | .bl b, v, h => h
  | .int i, v, h => h
  | .str s, v, h => h
  | .ty n, v, h => h
  | .tup ds, v, h => by
    obtain ⟨a, vs, h1, h2, h3⟩ := h
    exact ⟨a, vs, h1, Evl.ex_t e h2, Reps.mono e ds vs h3⟩
  | .lst ds, v, h => by
    obtain ⟨a, vs, h1, h2, h3⟩ := h
    exact ⟨a, vs, h1, e _ _ h2, Reps.mono e ds vs h3⟩
  | .obj c ks ds, v, h => by
    obtain ⟨a, dx, vs, h1, h2, h3, h4⟩ := h
    exact ⟨a, dx, vs, h1, e _ _ h2, h3, Reps.mono e ds vs h4⟩
  | .ro ds, v, h => by
    obtain ⟨a, vs, h1, h2, h3⟩ := h
    exact ⟨a, vs, h1, Evl.ex_l e h2, Reps.mono e ds vs h3⟩
  | .dct ks ds, v, h => by
    obtain ⟨a, vs, h1, h2, h3, h4, h5⟩ := h
    exact ⟨a, vs, h1, e _ _ h2, h3, Reps.mono e ds vs h4, h5⟩
theorem Reps.mono {K : PySem.W.Frag} {F F' : Hp} (e : Ex F F') : ∀ (ds : List D) (vs : List V), Reps K F ds vs → Reps K F' ds vs
  | [], vs, h => h
  | d :: ds, vs, h => by
    obtain ⟨v, r, h1, h2, h3⟩ := h
    exact ⟨v, r, h1, Rep.mono e d v h2, Reps.mono e ds r h3⟩
end
section
variable {K : PySem.W.Frag} {F F' H H' H1 : Hp}
theorem Reps.length : ∀ {ds : List D} {vs : List V}, Reps K F ds vs → ds.length = vs.length
  | [], vs, h => by rw [show vs = [] from h]; rfl
  | d :: ds, vs, h => by
    obtain ⟨v, r, rfl, _, h3⟩ := h
    simp [Reps.length h3]
theorem Reps.get : ∀ {ds : List D} {vs : List V} {i : Nat} {e : D}, Reps K F ds vs → ds[i]? = some e → ∃ v, vs[i]? = some v ∧ Rep K F e v
  | [], vs, i, e, h, q => by simp at q
  | d :: ds, vs, 0, e, h, q => by
    obtain ⟨v, r, rfl, h2, h3⟩ := h
    simp at q; subst q
    exact ⟨v, rfl, h2⟩
  | d :: ds, vs, i + 1, e, h, q => by
    obtain ⟨v, r, rfl, h2, h3⟩ := h
    simp at q
    obtain ⟨w, a, b⟩ := Reps.get h3 q
    exact ⟨w, by simpa using a, b⟩
theorem Reps.append : ∀ {ds es : List D} {vs ws : List V}, Reps K F ds vs → Reps K F es ws → Reps K F (ds ++ es) (vs ++ ws)
  | [], es, vs, ws, h, q => by rw [show vs = [] from h]; exact q
  | d :: ds, es, vs, ws, h, q => by
    obtain ⟨v, r, rfl, h2, h3⟩ := h
    exact ⟨v, r ++ ws, rfl, h2, Reps.append h3 q⟩
theorem Reps.one {e : D} {v : V} (h : Rep K F e v) : Reps K F [e] [v] := ⟨v, [], rfl, h, rfl⟩
theorem Reps.set : ∀ {ds : List D} {vs : List V} (i : Nat) {e : D} {v : V}, Reps K F ds vs → Rep K F e v → Reps K F (ds.set i e) (vs.set i v)
  | [], vs, i, e, v, h, q => by rw [show vs = [] from h]; exact rfl
  | d :: ds, vs, 0, e, v, h, q => by
    obtain ⟨w, r, rfl, h2, h3⟩ := h
    exact ⟨v, r, rfl, q, h3⟩
  | d :: ds, vs, i + 1, e, v, h, q => by
    obtain ⟨w, r, rfl, h2, h3⟩ := h
    exact ⟨w, r.set i v, rfl, h2, Reps.set i h3 q⟩
theorem Reps.drop : ∀ {ds : List D} {vs : List V} (i : Nat), Reps K F ds vs → Reps K F (ds.drop i) (vs.drop i)
  | [], vs, i, h => by rw [show vs = [] from h]; simp [Reps]
  | d :: ds, vs, 0, h => h
  | d :: ds, vs, i + 1, h => by
    obtain ⟨w, r, rfl, h2, h3⟩ := h
    exact Reps.drop i h3
theorem Reps.take : ∀ {ds : List D} {vs : List V} (i : Nat), Reps K F ds vs → Reps K F (ds.take i) (vs.take i)
  | [], vs, i, h => by rw [show vs = [] from h]; simp [Reps]
  | d :: ds, vs, 0, h => by simp [Reps]
  | d :: ds, vs, i + 1, h => by
    obtain ⟨w, r, rfl, h2, h3⟩ := h
    exact ⟨w, r.take i, rfl, h2, Reps.take i h3⟩
theorem Reps.dropLast {ds : List D} {vs : List V} (h : Reps K F ds vs) : Reps K F ds.dropLast vs.dropLast := by
  rw [List.dropLast_eq_take, List.dropLast_eq_take, h.length]
  exact Reps.take _ h
theorem Reps.reverse : ∀ {ds : List D} {vs : List V}, Reps K F ds vs → Reps K F ds.reverse vs.reverse
  | [], vs, h => by rw [show vs = [] from h]; simp [Reps]
  | d :: ds, vs, h => by
    obtain ⟨w, r, rfl, h2, h3⟩ := h
    rw [List.reverse_cons, List.reverse_cons]
    exact Reps.append (Reps.reverse h3) (Reps.one h2)
theorem Reps.ints : ∀ {ns : List Int} {vs : List V}, Reps K F (ns.map D.int) vs → vs = ns.map V.int
  | [], vs, h => h
  | n :: ns, vs, h => by
    obtain ⟨w, r, rfl, h2, h3⟩ := h
    rw [show w = V.int n from h2, Reps.ints h3]; rfl
theorem Reps.of_ints : ∀ (ns : List Int), Reps K F (ns.map D.int) (ns.map V.int)
  | [] => rfl
  | n :: ns => ⟨_, _, rfl, rfl, Reps.of_ints ns⟩
theorem Reps.bls : ∀ {ns : List Bool} {vs : List V}, Reps K F (ns.map D.bl) vs → vs = ns.map V.bl
  | [], vs, h => h
  | n :: ns, vs, h => by
    obtain ⟨w, r, rfl, h2, h3⟩ := h
    rw [show w = V.bl n from h2, Reps.bls h3]; rfl
theorem Reps.strs : ∀ {ns : List Str} {vs : List V}, Reps K F (ns.map D.str) vs → vs = ns.map V.str
  | [], vs, h => h
  | n :: ns, vs, h => by
    obtain ⟨w, r, rfl, h2, h3⟩ := h
    rw [show w = V.str n from h2, Reps.strs h3]; rfl

/-! ### how the heap goes on -/
structure Adv (F H F' H' : Hp) : Prop where
  f : Ex F F'
  h : Ex H H'
  in_ : Ex F' H'
  out : ∀ p, F p = none → H p ≠ none → F' p = none
theorem Adv.refl (e : Ex F H) : Adv F H F H := ⟨Ex.refl F, Ex.refl H, e, fun _ h _ => h⟩
theorem Adv.trans {F1 H1 F2 H2 F3 H3 : Hp} (a : Adv F1 H1 F2 H2) (b : Adv F2 H2 F3 H3) : Adv F1 H1 F3 H3 :=
  ⟨a.f.trans b.f, a.h.trans b.h, b.in_, fun p h1 h2 => b.out p (a.out p h1 h2) fun z => h2 (Evl.fresh_back a.h z)⟩
theorem none_of_ex (e : Ex F H) {p : Addr} (h : H p = none) : F p = none := Evl.fresh_back e h
theorem Adv.new {p : Addr} {o : HO} (e : Ex F H) (h : H p = none) : Adv F H (upd F p o) (upd H p o) := by
  refine ⟨Ex.new (none_of_ex e h), Ex.new h, fun a u q => ?_, fun q h1 h2 => ?_⟩
  · by_cases z : a = p
    · subst z; rw [upd_same] at q ⊢; exact q
    · rw [upd_ne z] at q ⊢; exact e a u q
  · have z : q ≠ p := fun z => h2 (by rw [z]; exact h)
    rw [upd_ne z]; exact h1
/-- a new object, not frozen -/
theorem Adv.newO {p : Addr} {o : HO} (e : Ex F H) (h : H p = none) : Adv F H F (upd H p o) :=
  ⟨Ex.refl F, Ex.new h, fun a u q => (Ex.new h) a u (e a u q), fun _ h1 _ => h1⟩
end

/-! ### what a def gives -/
inductive Res (α : Type) where
  | ok (x : α) | exc (c : Str) | stuck
namespace Res
def bind {α β : Type} : Res α → (α → Res β) → Res β
  | .ok x, f => f x
  | .exc c, _ => .exc c
  | .stuck, _ => .stuck
theorem bind_ok {α β : Type} (x : α) (f : α → Res β) : (Res.ok x).bind f = f x := rfl
theorem bind_exc {α β : Type} (c : Str) (f : α → Res β) : (Res.exc c : Res α).bind f = .exc c := rfl
theorem bind_stuck {α β : Type} (f : α → Res β) : (Res.stuck : Res α).bind f = .stuck := rfl
theorem bind_assoc {α β γ : Type} (m : Res α) (f : α → Res β) (g : β → Res γ) : (m.bind f).bind g = m.bind fun x => (f x).bind g := by
  cases m <;> rfl
theorem bind_pure {α : Type} (m : Res α) : m.bind Res.ok = m := by cases m <;> rfl
/-- a condition that must hold -/
@[irreducible] noncomputable def need {α : Type} (p : Prop) (m : Res α) : Res α := @ite _ p (Classical.propDecidable p) m .stuck
theorem need_pos {α : Type} {p : Prop} {m : Res α} (h : p) : need p m = m := by unfold need; exact if_pos h
theorem need_neg {α : Type} {p : Prop} {m : Res α} (h : ¬ p) : need p m = .stuck := by unfold need; exact if_neg h
def map {α β : Type} (f : α → β) (m : Res α) : Res β := m.bind fun x => .ok (f x)
end Res

/-! ### slots -/
inductive Sk where
  | im (e : D) | ow (xs : List D) | raw (v : V) | oi (p : Option Addr) (c : Str) (ks : List Str) (ds : List D)
/-- what only this frame knows -/
def Sk.own : Sk → Bool
  | .ow _ => true
  | .oi _ _ _ _ => true
  | _ => false
abbrev En := List (Option Sk)
def SkOk (K : PySem.W.Frag) (H0 F H : Hp) : Sk → V → Prop
  | .im e, v => Rep K F e v
  | .ow xs, v => ∃ p vs, v = .ref p ∧ H0 p = none ∧ F p = none ∧ H p = some (.lst vs) ∧ Reps K F xs vs
  | .raw w, v => v = w
  | .oi pp c ks ds, v => ∃ p dx vs, v = .ref p ∧ H0 p = none ∧ F p = none ∧ H p = some (.ins (He.ga K c) dx (ks.zip vs)) ∧ ks.length = vs.length ∧ Reps K F ds vs ∧ ∀ a, pp = some a → p = a
structure Sl (K : PySem.W.Frag) (F0 H0 F H : Hp) (σ : L2.St) (env : En) : Prop where
  adv : Adv F0 H0 F H
  slot : ∀ (i : Nat) (sk : Sk), env[i]? = some (some sk) → ∃ v, σ[i]? = some (some v) ∧ SkOk K H0 F H sk v
  dis : ∀ (i j : Nat) (sk sk' : Sk) (p : Addr), i ≠ j → env[i]? = some (some sk) → env[j]? = some (some sk') → sk.own = true → sk'.own = true → σ[i]? = some (some (.ref p)) → σ[j]? ≠ some (some (.ref p))
  len : σ.length = env.length
section
variable {K : PySem.W.Frag} {F0 H0 F H F' H' : Hp} {σ : L2.St} {env : En}
theorem Sl.ex (S : Sl K F0 H0 F H σ env) : Ex F H := S.adv.in_
theorem SkOk.adv {sk : Sk} {v : V} (a : Adv F H F' H') (h : SkOk K H0 F H sk v) : SkOk K H0 F' H' sk v := by
  cases sk with
  | im e => exact Rep.mono a.f _ _ h
  | ow xs =>
    obtain ⟨p, vs, e1, e2, e3, e4, e5⟩ := h
    exact ⟨p, vs, e1, e2, a.out p e3 (by rw [e4]; simp), a.h _ _ e4, Reps.mono a.f _ _ e5⟩
  | raw w => exact h
  | oi pp c ks ds =>
    obtain ⟨p, dx, vs, e1, e2, e3, e4, e5, e6, e7⟩ := h
    exact ⟨p, dx, vs, e1, e2, a.out p e3 (by rw [e4]; simp), a.h _ _ e4, e5, Reps.mono a.f _ _ e6, e7⟩
theorem SkOk.at {sk : Sk} {v : V} (ho : sk.own = true) (h : SkOk K H0 F H sk v) : ∃ p o, v = .ref p ∧ H0 p = none ∧ F p = none ∧ H p = some o := by
  cases sk with
  | im e => cases ho
  | raw w => cases ho
  | ow xs =>
    obtain ⟨p, vs, e1, e2, e3, e4, e5⟩ := h
    exact ⟨p, _, e1, e2, e3, e4⟩
  | oi pp c ks ds =>
    obtain ⟨p, dx, vs, e1, e2, e3, e4, e5, e6, e7⟩ := h
    exact ⟨p, _, e1, e2, e3, e4⟩
theorem SkOk.updH {sk : Sk} {v : V} {p : Addr} {o : HO} (hn : sk.own = true → v ≠ .ref p) (h : SkOk K H0 F H sk v) : SkOk K H0 F (upd H p o) sk v := by
  cases sk with
  | im e => exact h
  | raw w => exact h
  | ow xs =>
    obtain ⟨q, vs, e1, e2, e3, e4, e5⟩ := h
    have hne : q ≠ p := fun z => hn rfl (by rw [e1, z])
    exact ⟨q, vs, e1, e2, e3, by rw [upd_ne hne]; exact e4, e5⟩
  | oi pp c ks ds =>
    obtain ⟨q, dx, vs, e1, e2, e3, e4, e5, e6, e7⟩ := h
    have hne : q ≠ p := fun z => hn rfl (by rw [e1, z])
    exact ⟨q, dx, vs, e1, e2, e3, by rw [upd_ne hne]; exact e4, e5, e6, e7⟩
theorem SkOk.updF {sk : Sk} {v : V} {p : Addr} {o : HO} (hf : F p = none) (hn : sk.own = true → v ≠ .ref p) (h : SkOk K H0 F H sk v) : SkOk K H0 (upd F p o) H sk v := by
  have ad : Ex F (upd F p o) := Ex.new hf
  cases sk with
  | im e => exact Rep.mono ad _ _ h
  | raw w => exact h
  | ow xs =>
    obtain ⟨q, vs, e1, e2, e3, e4, e5⟩ := h
    have hne : q ≠ p := fun z => hn rfl (by rw [e1, z])
    exact ⟨q, vs, e1, e2, by rw [upd_ne hne]; exact e3, e4, Reps.mono ad _ _ e5⟩
  | oi pp c ks ds =>
    obtain ⟨q, dx, vs, e1, e2, e3, e4, e5, e6, e7⟩ := h
    have hne : q ≠ p := fun z => hn rfl (by rw [e1, z])
    exact ⟨q, dx, vs, e1, e2, by rw [upd_ne hne]; exact e3, e4, e5, Reps.mono ad _ _ e6, e7⟩
theorem Sl.step (S : Sl K F0 H0 F H σ env) (a : Adv F H F' H') : Sl K F0 H0 F' H' σ env := by
  refine ⟨S.adv.trans a, fun i sk e => ?_, S.dis, S.len⟩
  obtain ⟨v, h1, h2⟩ := S.slot i sk e
  exact ⟨v, h1, h2.adv a⟩
theorem set_get {α : Type} {l : List α} {i j : Nat} {x y : α} (h : (l.set i x)[j]? = some y) : (i = j ∧ x = y) ∨ (i ≠ j ∧ l[j]? = some y) := by
  rw [List.getElem?_set] at h
  by_cases e : i = j
  · rw [if_pos e] at h
    split at h
    · exact .inl ⟨e, Option.some.inj h⟩
    · cases h
  · rw [if_neg e] at h
    exact .inr ⟨e, h⟩
theorem set_len {α : Type} {l : List α} {i : Nat} {x y : α} (h : (l.set i x)[i]? = some y) : i < l.length := by
  have h := (List.getElem?_eq_some_iff.mp h).1
  rwa [List.length_set] at h
theorem Sl.setIm (S : Sl K F0 H0 F H σ env) {i : Nat} {e : D} {v : V} (r : Rep K F e v) : Sl K F0 H0 F H (σ.set i (some v)) (env.set i (some (.im e))) := by
  refine ⟨S.adv, fun j sk q => ?_, fun j k sk sk' p hjk e1 e2 o1 o2 h1 => ?_, by rw [List.length_set, List.length_set]; exact S.len⟩
  · rcases set_get q with ⟨rfl, z⟩ | ⟨z, q⟩
    · cases z
      refine ⟨v, ?_, r⟩
      have hi : i < env.length := set_len q
      rw [List.getElem?_set_self (by rw [S.len]; exact hi)]
    · obtain ⟨w, h1, h2⟩ := S.slot j sk q
      exact ⟨w, by rw [List.getElem?_set_ne z]; exact h1, h2⟩
  · rcases set_get e1 with ⟨_, z⟩ | ⟨z1, e1⟩
    · cases z; cases o1
    rcases set_get e2 with ⟨_, z⟩ | ⟨z2, e2⟩
    · cases z; cases o2
    rw [List.getElem?_set_ne z1] at h1
    rw [List.getElem?_set_ne z2]
    exact S.dis j k sk sk' p hjk e1 e2 o1 o2 h1
/-- a new owned object -/
theorem Sl.setOwn (S : Sl K F0 H0 F H σ env) {i : Nat} {p : Addr} {sk : Sk} (hs : SkOk K H0 F H sk (.ref p)) (hn : ∀ (j : Nat) (sk' : Sk), env[j]? = some (some sk') → sk'.own = true → σ[j]? ≠ some (some (V.ref p))) :
    Sl K F0 H0 F H (σ.set i (some (.ref p))) (env.set i (some sk)) := by
  refine ⟨S.adv, fun j sk q => ?_, fun j k sk1 sk2 p' hjk e1 e2 o1 o2 h1 => ?_, by rw [List.length_set, List.length_set]; exact S.len⟩
  · rcases set_get q with ⟨rfl, z⟩ | ⟨z, q⟩
    · cases z
      refine ⟨_, ?_, hs⟩
      have hi : i < env.length := set_len q
      rw [List.getElem?_set_self (by rw [S.len]; exact hi)]
    · obtain ⟨w, h1, h2⟩ := S.slot j sk q
      exact ⟨w, by rw [List.getElem?_set_ne z]; exact h1, h2⟩
  · rcases set_get e1 with ⟨z0, z⟩ | ⟨z1, e1⟩
    · rcases set_get e2 with ⟨z2, _⟩ | ⟨z2, e2⟩
      · exact absurd (z0.symm.trans z2) hjk
      · subst z0
        rw [List.getElem?_set_ne z2]
        have hi : i < σ.length := set_len h1
        rw [List.getElem?_set_self hi] at h1
        cases h1
        exact hn k sk2 e2 o2
    · rw [List.getElem?_set_ne z1] at h1
      rcases set_get e2 with ⟨z2, z⟩ | ⟨z2, e2⟩
      · subst z2
        intro q
        have hi : i < σ.length := set_len q
        rw [List.getElem?_set_self hi] at q
        cases q
        exact hn j sk1 e1 o1 h1
      · rw [List.getElem?_set_ne z2]
        exact S.dis j k sk1 sk2 p' hjk e1 e2 o1 o2 h1
theorem Sl.setOw (S : Sl K F0 H0 F H σ env) {i : Nat} {p : Addr} {xs : List D} {vs : List V} (h0 : H0 p = none) (hf : F p = none) (hp : H p = some (.lst vs)) (hn : ∀ (j : Nat) (sk' : Sk), env[j]? = some (some sk') → sk'.own = true → σ[j]? ≠ some (some (V.ref p))) (r : Reps K F xs vs) :
    Sl K F0 H0 F H (σ.set i (some (.ref p))) (env.set i (some (.ow xs))) := S.setOwn ⟨p, vs, rfl, h0, hf, hp, r⟩ hn
/-- an owned object changes -/
theorem Sl.chgO (S : Sl K F0 H0 F H σ env) {i : Nat} {p : Addr} {sk sk' : Sk} {o : HO} (e : env[i]? = some (some sk)) (ho : sk.own = true) (hs : σ[i]? = some (some (.ref p))) (hp : F p = none) (h0 : H0 p = none) (hk : SkOk K H0 F (upd H p o) sk' (.ref p)) :
    Sl K F0 H0 F (upd H p o) σ (env.set i (some sk')) := by
  refine ⟨⟨S.adv.f, fun a u q => ?_, fun a u q => ?_, S.adv.out⟩, fun j sk q => ?_, fun j k sk1 sk2 p' hjk e1 e2 o1 o2 h1 => ?_, by rw [List.length_set]; exact S.len⟩
  · rw [upd_ne (ne_of_none q h0)]; exact S.adv.h a u q
  · rw [upd_ne (ne_of_none q hp)]; exact S.adv.in_ a u q
  · rcases set_get q with ⟨rfl, z⟩ | ⟨z, q⟩
    · cases z
      exact ⟨_, hs, hk⟩
    · obtain ⟨w, h1, h2⟩ := S.slot j sk q
      exact ⟨w, h1, h2.updH fun o2 zz => S.dis i j _ _ p z e q ho o2 hs (by rw [h1, zz])⟩
  · have own : ∀ {j : Nat} {s : Sk}, (env.set i (some sk'))[j]? = some (some s) → s.own = true → ∃ s', env[j]? = some (some s') ∧ s'.own = true := by
      intro j s q o
      rcases set_get q with ⟨rfl, _⟩ | ⟨_, q⟩
      · exact ⟨_, e, ho⟩
      · exact ⟨_, q, o⟩
    obtain ⟨_, q1, r1⟩ := own e1 o1
    obtain ⟨_, q2, r2⟩ := own e2 o2
    exact S.dis j k _ _ p' hjk q1 q2 r1 r2 h1
theorem Sl.chg (S : Sl K F0 H0 F H σ env) {i : Nat} {p : Addr} {xs ys : List D} {ws : List V} (e : env[i]? = some (some (.ow xs))) (hs : σ[i]? = some (some (.ref p))) (hp : F p = none) (h0 : H0 p = none) (r : Reps K F ys ws) :
    Sl K F0 H0 F (upd H p (.lst ws)) σ (env.set i (some (.ow ys))) := S.chgO e rfl hs hp h0 ⟨p, ws, rfl, h0, hp, upd_same, r⟩
/-- an owned object is frozen -/
theorem Sl.freezeO (S : Sl K F0 H0 F H σ env) {i : Nat} {sk : Sk} {d : D} (e : env[i]? = some (some sk)) (ho : sk.own = true) (hd : ∀ p o, SkOk K H0 F H sk (.ref p) → H p = some o → F p = none → Rep K (upd F p o) d (.ref p)) : ∃ F', Ex F F' ∧ Sl K F0 H0 F' H σ (env.set i (some (.im d))) := by
  obtain ⟨v, hs, hk⟩ := S.slot i _ e
  obtain ⟨p, o, rfl, h0, hf, hp⟩ := hk.at ho
  have ad : Ex F (upd F p o) := Ex.new hf
  have inn : Ex (upd F p o) H := fun a u q => by
    by_cases z : a = p
    · subst z; rw [upd_same] at q; cases q; exact hp
    · rw [upd_ne z] at q; exact S.ex a u q
  refine ⟨upd F p o, ad, ⟨⟨S.adv.f.trans ad, S.adv.h, inn, fun a h1 h2 => ?_⟩, fun j sk q => ?_, fun j k sk1 sk2 p' hjk e1 e2 o1 o2 h1 => ?_, by rw [List.length_set]; exact S.len⟩⟩
  · have z : a ≠ p := fun z => h2 (by rw [z]; exact h0)
    rw [upd_ne z]; exact S.adv.out a h1 h2
  · rcases set_get q with ⟨rfl, z⟩ | ⟨z, q⟩
    · cases z
      exact ⟨_, hs, hd p o hk hp hf⟩
    · obtain ⟨w, h1, h2⟩ := S.slot j sk q
      exact ⟨w, h1, h2.updF hf fun o2 zz => S.dis i j _ _ p z e q ho o2 hs (by rw [h1, zz])⟩
  · have own : ∀ {j : Nat} {s : Sk}, (env.set i (some (.im d)))[j]? = some (some s) → s.own = true → env[j]? = some (some s) := by
      intro j s q o
      rcases set_get q with ⟨rfl, z⟩ | ⟨_, q⟩
      · cases z; cases o
      · exact q
    exact S.dis j k _ _ p' hjk (own e1 o1) (own e2 o2) o1 o2 h1
theorem Sl.freeze (S : Sl K F0 H0 F H σ env) {i : Nat} {xs : List D} (e : env[i]? = some (some (.ow xs))) : ∃ F', Ex F F' ∧ Sl K F0 H0 F' H σ (env.set i (some (.im (.lst xs)))) :=
  S.freezeO e rfl fun p o h hp hf => by
    obtain ⟨q, vs, e1, _, _, e4, e5⟩ := h
    cases e1
    rw [hp] at e4; cases e4
    exact ⟨_, vs, rfl, upd_same, Reps.mono (Ex.new hf) _ _ e5⟩
theorem Sl.freezeI (S : Sl K F0 H0 F H σ env) {i : Nat} {pp : Option Addr} {c : Str} {ks : List Str} {ds : List D} (e : env[i]? = some (some (.oi pp c ks ds))) : ∃ F', Ex F F' ∧ Sl K F0 H0 F' H σ (env.set i (some (.im (.obj c ks ds)))) :=
  S.freezeO e rfl fun p o h hp hf => by
    obtain ⟨q, dx, vs, e1, _, _, e4, e5, e6, _⟩ := h
    cases e1
    rw [hp] at e4; cases e4
    exact ⟨_, dx, vs, rfl, upd_same, e5, Reps.mono (Ex.new hf) _ _ e6⟩
end
end Mi
set_option maxHeartbeats 1000000
namespace Mi
open PySem PySem.Spec L2
open Evl (Ex)

class ToDs (β : Type) where
  ds : β → List D
instance : ToDs Unit := ⟨fun _ => []⟩
instance {α β : Type} [ToD α] [ToDs β] : ToDs (α × β) := ⟨fun p => ToD.d p.1 :: ToDs.ds p.2⟩

/-! ### what follows a value -/
section
variable (K : PySem.W.Frag) (W : WX) (F H : Hp) (σ : L2.St)
def KE {α : Type} [ToD α] (Q : VK) : Res α → Prop
  | .ok x => ∀ v F' H', Adv F H F' H' → Rep K F' (toD x) v → Q v H'
  | .exc c => ∀ F' H', Adv F H F' H' → W (.ref (He.ga K c)) none σ H'
  | .stuck => False
def KA {β : Type} [ToDs β] (Q : List V → Hp → Prop) : Res β → Prop
  | .ok x => ∀ vs F' H', Adv F H F' H' → Reps K F' (ToDs.ds x) vs → Q vs H'
  | .exc c => ∀ F' H', Adv F H F' H' → W (.ref (He.ga K c)) none σ H'
  | .stuck => False
def KT (Q : Bool → Hp → Prop) : Res Bool → Prop
  | .ok b => ∀ F' H', Adv F H F' H' → Q b H'
  | .exc c => ∀ F' H', Adv F H F' H' → W (.ref (He.ga K c)) none σ H'
  | .stuck => False
def KN {α : Type} [ToD α] (Q : VK) : Res (List α) → Prop
  | .ok xs => ∀ p vs F' H', Adv F H F' H' → H p = none → F' p = none → H' p = some (.lst vs) → Reps K F' (xs.map toD) vs → Q (.ref p) H'
  | .exc c => ∀ F' H', Adv F H F' H' → W (.ref (He.ga K c)) none σ H'
  | .stuck => False
end
def EvX (K : PySem.W.Frag) (W : WX) (env : En) (te : TE) {α : Type} [ToD α] (m : Res α) : Prop :=
  ∀ F0 H0 F H σ Q, Sl K F0 H0 F H σ env → KE K W F H σ Q m → te σ H Q
def EvA (K : PySem.W.Frag) (W : WX) (env : En) (ta : TA) {β : Type} [ToDs β] (m : Res β) : Prop :=
  ∀ F0 H0 F H σ Q, Sl K F0 H0 F H σ env → KA K W F H σ Q m → ta σ H Q
def EvT (K : PySem.W.Frag) (W : WX) (env : En) (tt : TT) (m : Res Bool) : Prop :=
  ∀ F0 H0 F H σ Q, Sl K F0 H0 F H σ env → KT K W F H σ Q m → tt σ H Q
def EvN (K : PySem.W.Frag) (W : WX) (env : En) (te : TE) {α : Type} [ToD α] (m : Res (List α)) : Prop :=
  ∀ F0 H0 F H σ Q, Sl K F0 H0 F H σ env → KN K W F H σ Q m → te σ H Q

section
variable {K : PySem.W.Frag} {W : WX} {F H F' H' : Hp} {σ : L2.St} {env : En} {α β γ τ : Type} [ToD α] [ToD β] [ToD γ] [ToD τ] {ta tb te tc : TE} {tt tu : TT} {r : R2}

/-- from what follows a whole to what follows its first part -/
theorem KE.cut {Q : VK} {Q1 : VK} {m : Res α} {f : α → Res β} (ex : Ex F H) (h : KE K W F H σ Q (m.bind f))
    (k : ∀ x v F' H', m = .ok x → Adv F H F' H' → Rep K F' (toD x) v → KE K W F' H' σ Q (f x) → Q1 v H') : KE K W F H σ Q1 m := by
  cases m with
  | ok x =>
    intro v F1 H1 a r
    refine k x v F1 H1 rfl a r ?_
    have h : KE K W F H σ Q (f x) := h
    revert h
    generalize f x = y
    intro h
    cases y with
    | ok y => exact fun v F2 H2 b q => h v F2 H2 (a.trans b) q
    | exc c => exact fun F2 H2 b => h F2 H2 (a.trans b)
    | stuck => exact h.elim
  | exc c => exact h
  | stuck => exact h.elim
theorem KE.adv {Q : VK} {m : Res β} (a : Adv F H F' H') (h : KE K W F H σ Q m) : KE K W F' H' σ Q m := by
  cases m with
  | ok y => exact fun v F2 H2 b q => h v F2 H2 (a.trans b) q
  | exc c => exact fun F2 H2 b => h F2 H2 (a.trans b)
  | stuck => exact h.elim
theorem KT.adv {Q : Bool → Hp → Prop} {m : Res Bool} (a : Adv F H F' H') (h : KT K W F H σ Q m) : KT K W F' H' σ Q m := by
  cases m with
  | ok y => exact fun F2 H2 b => h F2 H2 (a.trans b)
  | exc c => exact fun F2 H2 b => h F2 H2 (a.trans b)
  | stuck => exact h.elim
theorem KA.adv {δ : Type} [ToDs δ] {Q : List V → Hp → Prop} {m : Res δ} (a : Adv F H F' H') (h : KA K W F H σ Q m) : KA K W F' H' σ Q m := by
  cases m with
  | ok y => exact fun v F2 H2 b q => h v F2 H2 (a.trans b) q
  | exc c => exact fun F2 H2 b => h F2 H2 (a.trans b)
  | stuck => exact h.elim

/-- general: te then a use of its value -/
theorem use {Q Q1 : VK} {m : Res α} {F0 H0 : Hp} (hv : EvX K W env te m) (S : Sl K F0 H0 F H σ env)
    (hx : ∀ c, m = .exc c → ∀ F' H', Adv F H F' H' → W (.ref (He.ga K c)) none σ H') (hs : m ≠ .stuck)
    (k : ∀ x v F' H', m = .ok x → Adv F H F' H' → Rep K F' (toD x) v → Q1 v H') : te σ H Q1 := by
  refine hv F0 H0 F H σ Q1 S ?_
  cases m with
  | ok x => exact fun v F' H' a q => k x v F' H' rfl a q
  | exc c => exact hx c rfl
  | stuck => exact hs rfl

/-! ### names and constants -/
theorem ev_var {i : Nat} {x : α} (h : env[i]? = some (some (.im (toD x)))) : EvX K W env (tVar i) (.ok x) := fun F0 H0 F H σ Q S k => by
  obtain ⟨v, e, q⟩ := S.slot i _ h
  exact ⟨v, e, k v F H (Adv.refl S.ex) q⟩
theorem ev_int {i : Int} : EvX K W env (tC (.int i)) (.ok i) := fun F0 H0 F H σ Q S k => k _ F H (Adv.refl S.ex) rfl
theorem ev_bl {b : Bool} : EvX K W env (tC (.bl b)) (.ok b) := fun F0 H0 F H σ Q S k => k _ F H (Adv.refl S.ex) rfl
theorem ev_str {x : Str} : EvX K W env (tC (.str x)) (.ok x) := fun F0 H0 F H σ Q S k => k _ F H (Adv.refl S.ex) rfl
theorem ev_non : EvX K W env (tC .non) (.ok ()) := fun F0 H0 F H σ Q S k => k _ F H (Adv.refl S.ex) rfl
theorem ev_noneO : EvX K W env (tC .non) (.ok (none : Option α)) := fun F0 H0 F H σ Q S k => k _ F H (Adv.refl S.ex) rfl
theorem ev_tyc {n : String} : EvX K W env (tC (.ty n)) (.ok (D.ty n)) := fun F0 H0 F H σ Q S k => k _ F H (Adv.refl S.ex) rfl
/-- the same value in another type -/
theorem ev_as {m : Res α} {m' : Res β} (h : EvX K W env te m) (f : α → β) (e : ∀ x, toD (f x) = toD x) (em : m.bind (fun x => .ok (f x)) = m') : EvX K W env te m' := fun F0 H0 F H σ Q S k => by
  refine h F0 H0 F H σ Q S ?_
  subst em
  cases m with
  | ok x => intro v F' H' a q; exact k v F' H' a (by rw [e]; exact q)
  | exc c => exact k
  | stuck => exact k.elim

/-! ### operators -/
def OpX (K : PySem.W.Frag) (r : R2) (f : α → β → Res γ) : Prop := ∀ (F H : Hp) (x : α) (y : β) (v u : V) (Q : VK), Ex F H → Rep K F (toD x) v → Rep K F (toD y) u →
  KE K (fun _ _ _ _ => False) F H [] Q (f x y) → r v u H Q
theorem KE.exc_false {Q : VK} {c : Str} (h : KE K (fun _ _ _ _ => False) F H [] Q (.exc c : Res α)) (e : Ex F H) : False := h F H (Adv.refl e)
/-- operators let nothing out -/
def Mild (f : α → β → Res γ) : Prop := ∀ x y c, f x y ≠ .exc c
theorem KE.mild {Q : VK} {m : Res γ} (hm : ∀ c, m ≠ .exc c) (h : KE K W F H σ Q m) : KE K (fun _ _ _ _ => False) F H [] Q m := by
  cases m with
  | ok x => exact h
  | exc c => exact absurd rfl (hm c)
  | stuck => exact h.elim
theorem ev_op {m1 : Res α} {m2 : Res β} {f : α → β → Res γ} (ho : OpX K r f) (hm : Mild f) (ha : EvX K W env ta m1) (hb : EvX K W env tb m2) :
    EvX K W env (tOp r ta tb) (m1.bind fun x => m2.bind fun y => f x y) := fun F0 H0 F H σ Q S k => by
  refine ha F0 H0 F H σ _ S (KE.cut S.ex k fun x v F1 H1 e1 a1 r1 k1 => ?_)
  refine hb F0 H0 F1 H1 σ _ (S.step a1) (KE.cut a1.in_ k1 fun y u F2 H2 e2 a2 r2 k2 => ?_)
  exact ho F2 H2 x y v u Q a2.in_ (Rep.mono a2.f _ _ r1) r2 (k2.mild (hm x y))
theorem mild_ok {g : α → β → γ} : Mild (fun x y => Res.ok (g x y)) := fun _ _ _ h => nomatch h
theorem mild_need {p : α → β → Prop} {g : α → β → γ} : Mild (fun x y => Res.need (p x y) (.ok (g x y))) := fun x y c h => by
  by_cases q : p x y
  · have h : Res.need (p x y) (.ok (g x y)) = .exc c := h
    rw [Res.need_pos q] at h; cases h
  · have h : Res.need (p x y) (.ok (g x y)) = .exc c := h
    rw [Res.need_neg q] at h; cases h
theorem opx_I0 {g : Int → Int → Int} : OpX K (rI0 fun i j => .int (g i j)) (fun i j => .ok (g i j)) := fun F H x y v u Q e h1 h2 k =>
  ⟨x, y, h1, h2, k _ F H (Adv.refl e) rfl⟩
theorem opx_B0 {g : Int → Int → Bool} : OpX K (rI0 fun i j => .bl (g i j)) (fun i j => .ok (g i j)) := fun F H x y v u Q e h1 h2 k =>
  ⟨x, y, h1, h2, k _ F H (Adv.refl e) rfl⟩
theorem opx_I {C : Int → Int → Prop} {g : Int → Int → Int} : OpX K (rI C fun i j => .int (g i j)) (fun i j => .need (C i j) (.ok (g i j))) := fun F H x y v u Q e h1 h2 k => by
  by_cases c : C x y
  · have k : KE K (fun _ _ _ _ => False) F H [] Q (Res.need (C x y) (.ok (g x y))) := k
    rw [Res.need_pos c] at k
    exact ⟨x, y, h1, h2, c, k _ F H (Adv.refl e) rfl⟩
  · have k : KE K (fun _ _ _ _ => False) F H [] Q (Res.need (C x y) (.ok (g x y))) := k
    rw [Res.need_neg c] at k
    exact k.elim
/-- the same where the condition is known -/
theorem ev_opI {m1 m2 : Res Int} {C : Int → Int → Prop} {g : Int → Int → Int} (hc : ∀ x y, m1 = .ok x → m2 = .ok y → C x y) (ha : EvX K W env ta m1) (hb : EvX K W env tb m2) :
    EvX K W env (tOp (rI C fun i j => .int (g i j)) ta tb) (m1.bind fun x => m2.bind fun y => .ok (g x y)) := fun F0 H0 F H σ Q S k => by
  refine ha F0 H0 F H σ _ S (KE.cut S.ex k fun x v F1 H1 e1 a1 r1 k1 => ?_)
  refine hb F0 H0 F1 H1 σ _ (S.step a1) (KE.cut a1.in_ k1 fun y u F2 H2 e2 a2 r2 k2 => ?_)
  exact ⟨x, y, r1, r2, hc x y e1 e2, k2 _ F2 H2 (Adv.refl a2.in_) rfl⟩
theorem ev_un {m1 : Res Int} {g : Int → Int} (ha : EvX K W env ta m1) : EvX K W env (tUn (rU fun i => .int (g i)) ta) (m1.bind fun x => .ok (g x)) := fun F0 H0 F H σ Q S k => by
  refine ha F0 H0 F H σ _ S (KE.cut S.ex k fun x v F1 H1 e1 a1 r1 k1 => ?_)
  exact ⟨x, r1, k1 _ F1 H1 (Adv.refl a1.in_) rfl⟩
/-- == of two ints, two bools, two texts -/
theorem opx_eqI : OpX K rEq (fun (i j : Int) => .ok (decide (i = j))) := fun F H x y v u Q e h1 h2 k => by
  cases (show v = V.int x from h1); cases (show u = V.int y from h2)
  refine ⟨rfl, ?_⟩
  rw [show decide (V.int x = V.int y) = decide (x = y) by rw [dec_int]; rfl]
  exact k _ F H (Adv.refl e) rfl
theorem opx_neI : OpX K rNe (fun (i j : Int) => .ok (!decide (i = j))) := fun F H x y v u Q e h1 h2 k => by
  cases (show v = V.int x from h1); cases (show u = V.int y from h2)
  refine ⟨rfl, ?_⟩
  rw [show decide (V.int x = V.int y) = decide (x = y) by rw [dec_int]; rfl]
  exact k _ F H (Adv.refl e) rfl
theorem opx_eqB : OpX K rEq (fun (i j : Bool) => .ok (i == j)) := fun F H x y v u Q e h1 h2 k => by
  cases (show v = V.bl x from h1); cases (show u = V.bl y from h2)
  refine ⟨rfl, ?_⟩
  rw [dec_bl]
  exact k _ F H (Adv.refl e) rfl
theorem opx_neB : OpX K rNe (fun (i j : Bool) => .ok (!(i == j))) := fun F H x y v u Q e h1 h2 k => by
  cases (show v = V.bl x from h1); cases (show u = V.bl y from h2)
  refine ⟨rfl, ?_⟩
  rw [dec_bl]
  exact k _ F H (Adv.refl e) rfl
theorem opx_eqS : OpX K rEq (fun (i j : Str) => .ok (i == j)) := fun F H x y v u Q e h1 h2 k => by
  cases (show v = V.str x from h1); cases (show u = V.str y from h2)
  refine ⟨rfl, ?_⟩
  rw [dec_str]
  exact k _ F H (Adv.refl e) rfl
theorem opx_neS : OpX K rNe (fun (i j : Str) => .ok (!(i == j))) := fun F H x y v u Q e h1 h2 k => by
  cases (show v = V.str x from h1); cases (show u = V.str y from h2)
  refine ⟨rfl, ?_⟩
  rw [dec_str]
  exact k _ F H (Adv.refl e) rfl
def D.isNon : D → Bool
  | .non => true
  | _ => false
theorem rep_isNon : ∀ {x : D} {v : V}, Rep K F x v → decide (v = V.non) = x.isNon
  | .non, v, h => by rw [show v = V.non from h]; rfl
  | .bl b, v, h => by rw [show v = V.bl b from h]; rfl
  | .int b, v, h => by rw [show v = V.int b from h]; rfl
  | .str b, v, h => by rw [show v = V.str b from h]; rfl
  | .ty b, v, h => by rw [show v = V.ty b from h]; rfl
  | .tup ds, v, h => by obtain ⟨a, vs, rfl, _⟩ := h; rfl
  | .lst ds, v, h => by obtain ⟨a, vs, rfl, _⟩ := h; rfl
  | .obj c ks ds, v, h => by obtain ⟨a, dx, vs, rfl, _⟩ := h; rfl
  | .ro ds, v, h => by obtain ⟨a, vs, rfl, _⟩ := h; rfl
  | .dct ks ds, v, h => by obtain ⟨a, vs, rfl, _⟩ := h; rfl
theorem opx_isN : OpX K (fun x y H Q => y = .non ∧ Q (.bl (decide (x = .non))) H) (fun (x : α) (_ : Unit) => .ok (toD x).isNon) := fun F H x y v u Q e h1 h2 k =>
  ⟨h2, by rw [rep_isNon h1]; exact k _ F H (Adv.refl e) rfl⟩
theorem opx_notN : OpX K (fun x y H Q => y = .non ∧ Q (.bl (!decide (x = .non))) H) (fun (x : α) (_ : Unit) => .ok (!(toD x).isNon)) := fun F H x y v u Q e h1 h2 k =>
  ⟨h2, by rw [rep_isNon h1]; exact k _ F H (Adv.refl e) rfl⟩

/-! ### == of data -/
mutual
def D.py : D → PyData
  | .non => .none
  | .bl b => .bool b
  | .int i => .int i
  | .str s => .str s
  | .ty _ => .none
  | .tup xs => .tuple (pyL xs)
  | .lst xs => .list (pyL xs)
  | .obj _ _ _ => .none
  | .ro _ => .none
  | .dct _ _ => .none
def pyL : List D → List PyData
  | [] => []
  | x :: xs => D.py x :: pyL xs
end
mutual
/-- no objects, no classes within -/
def D.flat : D → Bool
  | .ty _ => false
  | .obj _ _ _ => false
  | .ro _ => false
  | .dct _ _ => false
  | .tup xs => flatL xs
  | .lst xs => flatL xs
  | _ => true
def flatL : List D → Bool
  | [] => true
  | x :: xs => D.flat x && flatL xs
end
mutual
theorem dp_of : ∀ {x : D} {v : V}, Rep K F x v → x.flat = true → Dp K F v x.py
  | .non, v, h, _ => by rw [show v = V.non from h]; exact .non
  | .bl b, v, h, _ => by rw [show v = V.bl b from h]; exact .bl b
  | .int b, v, h, _ => by rw [show v = V.int b from h]; exact .int b
  | .str b, v, h, _ => by rw [show v = V.str b from h]; exact .str b
  | .ty b, v, h, q => by cases q
  | .tup ds, v, h, q => by obtain ⟨a, vs, rfl, h2, h3⟩ := h; exact .tup h2 (dps_of h3 q)
  | .lst ds, v, h, q => by obtain ⟨a, vs, rfl, h2, h3⟩ := h; exact .lst (Evl.sq_of h2) (dps_of h3 q)
  | .obj c ks ds, v, h, q => by cases q
  | .ro ds, v, h, q => by cases q
  | .dct ks ds, v, h, q => by cases q
theorem dps_of : ∀ {xs : List D} {vs : List V}, Reps K F xs vs → flatL xs = true → DpAll K F vs (pyL xs)
  | [], vs, h, _ => by rw [show vs = [] from h]; exact .nil
  | x :: xs, vs, h, q => by
    obtain ⟨v, r, rfl, h2, h3⟩ := h
    have q2 := Bool.and_eq_true_iff.mp (show (D.flat x && flatL xs) = true from q)
    exact .cons (dp_of h2 q2.1) (dps_of h3 q2.2)
end
mutual
theorem Dp.mono {e : Ex F F'} : ∀ {v : V} {x : PyData}, Dp K F v x → Dp K F' v x
  | _, _, .non => .non
  | _, _, .bl b => .bl b
  | _, _, .int b => .int b
  | _, _, .str b => .str b
  | _, _, .lst h1 h2 => .lst (Evl.ex_l e h1) (Dps.mono (e := e) h2)
  | _, _, .tup h1 h2 => .tup (Evl.ex_t e h1) (Dps.mono (e := e) h2)
theorem Dps.mono {e : Ex F F'} : ∀ {v : List V} {x : List PyData}, DpAll K F v x → DpAll K F' v x
  | _, _, .nil => .nil
  | _, _, .cons h1 h2 => .cons (Dp.mono (e := e) h1) (Dps.mono (e := e) h2)
end
/-- data that == may be asked of -/
def D.okq (x : D) : Bool := x.flat && SeqAt.shaped x.py
def pyEq (x y : D) : Bool := PyData.eqv x.py y.py
theorem opx_eqD : OpX K (rEqD K) (fun (x : α) (y : β) => .need ((toD x).okq = true ∧ (toD y).okq = true) (.ok (pyEq (toD x) (toD y)))) := fun F H x y v u Q e h1 h2 k => by
  dsimp only at k
  by_cases c : (toD x).okq = true ∧ (toD y).okq = true
  · rw [Res.need_pos c] at k
    obtain ⟨c1, c2⟩ := c
    obtain ⟨a1, a2⟩ := Bool.and_eq_true_iff.mp c1
    obtain ⟨b1, b2⟩ := Bool.and_eq_true_iff.mp c2
    exact ⟨_, _, Dp.mono (e := e) (dp_of h1 a1), Dp.mono (e := e) (dp_of h2 b1), a2, b2, k _ F H (Adv.refl e) rfl⟩
  · rw [Res.need_neg c] at k
    exact k.elim
theorem opx_neD : OpX K (rNeD K) (fun (x : α) (y : β) => .need ((toD x).okq = true ∧ (toD y).okq = true) (.ok (!pyEq (toD x) (toD y)))) := fun F H x y v u Q e h1 h2 k => by
  dsimp only at k
  by_cases c : (toD x).okq = true ∧ (toD y).okq = true
  · rw [Res.need_pos c] at k
    obtain ⟨c1, c2⟩ := c
    obtain ⟨a1, a2⟩ := Bool.and_eq_true_iff.mp c1
    obtain ⟨b1, b2⟩ := Bool.and_eq_true_iff.mp c2
    exact ⟨_, _, Dp.mono (e := e) (dp_of h1 a1), Dp.mono (e := e) (dp_of h2 b1), a2, b2, k _ F H (Adv.refl e) rfl⟩
  · rw [Res.need_neg c] at k
    exact k.elim

/-! ### an item -/
def idx {α : Type} (xs : List α) (i : Int) : Res α := match atI xs i with
  | some x => .ok x
  | none => .stuck
theorem idx_mild {α : Type} (xs : List α) (i : Int) (c : Str) : idx xs i ≠ .exc c := by
  unfold idx; split <;> intro h <;> cases h
theorem atI_map {α β : Type} (f : α → β) (xs : List α) (i : Int) : atI (xs.map f) i = (atI xs i).map f := by
  unfold atI
  rw [List.length_map]
  cases ixN xs.length i with
  | none => rfl
  | some j => simp
theorem Reps.at {xs : List D} {vs : List V} {i : Int} {x : D} (h : Reps K F xs vs) (e : atI xs i = some x) : ∃ v, atI vs i = some v ∧ Rep K F x v := by
  unfold atI at e ⊢
  rw [← h.length]
  cases q : ixN xs.length i with
  | none => rw [q] at e; cases e
  | some j => rw [q] at e; exact Reps.get h e
theorem opx_ixL : OpX K (rIxL K) (fun (xs : List α) (i : Int) => idx xs i) := fun F H xs i v u Q e h1 h2 k => by
  obtain ⟨a, vs, rfl, hl, hr⟩ := h1
  cases (show u = V.int i from h2)
  dsimp only [idx] at k
  cases q : atI xs i with
  | none => rw [q] at k; exact k.elim
  | some x =>
    rw [q] at k
    obtain ⟨w, hw, rw_⟩ := Reps.at (i := i) hr (x := toD x) (by rw [atI_map, q]; rfl)
    exact ⟨a, vs, i, w, rfl, rfl, sq_ex e hl, hw, k _ F H (Adv.refl e) rw_⟩
theorem opx_ixT : OpX K (rIxT K) (fun (xs : Tu α) (i : Int) => idx xs.xs i) := fun F H xs i v u Q e h1 h2 k => by
  obtain ⟨a, vs, rfl, hl, hr⟩ := h1
  cases (show u = V.int i from h2)
  dsimp only [idx] at k
  cases q : atI xs.xs i with
  | none => rw [q] at k; exact k.elim
  | some x =>
    rw [q] at k
    obtain ⟨w, hw, rw_⟩ := Reps.at (i := i) hr (x := toD x) (by rw [atI_map, q]; rfl)
    exact ⟨a, vs, i, w, rfl, rfl, Evl.ex_t e hl, hw, k _ F H (Adv.refl e) rw_⟩
/-- t[i], i written, t a tuple whose parts have types of their own -/
theorem ev_ixTC {m : Res α} {i : Int} {f : α → β} (ha : EvX K W env ta m) (hf : ∀ x, ∃ ds, toD x = .tup ds ∧ atI ds i = some (toD (f x))) :
    EvX K W env (tOp (rIxT K) ta (tC (.int i))) (m.bind fun x => .ok (f x)) := fun F0 H0 F H σ Q S k => by
  refine ha F0 H0 F H σ _ S (KE.cut S.ex k fun x v F1 H1 e1 a1 r1 k1 => ?_)
  obtain ⟨ds, e, q⟩ := hf x
  rw [e] at r1
  obtain ⟨a, vs, rfl, hl, hr⟩ := r1
  obtain ⟨w, hw, rw_⟩ := Reps.at (i := i) hr q
  exact ⟨a, vs, i, w, rfl, rfl, Evl.ex_t a1.in_ hl, hw, k1 _ F1 H1 (Adv.refl a1.in_) rw_⟩
/-- xs[i], xs the owned list of slot j -/
theorem ev_ixO {j : Nat} {xs : List α} {m : Res Int} (h : env[j]? = some (some (.ow (xs.map toD)))) (hb : EvX K W env tb m) : EvX K W env (tOp (rIxL K) (tVar j) tb) (m.bind fun i => idx xs i) := fun F0 H0 F H σ Q S k => by
  obtain ⟨v, e, p, vs, rfl, h0, hf, hp, hr⟩ := S.slot j _ h
  refine ⟨_, e, ?_⟩
  refine hb F0 H0 F H σ _ S (KE.cut S.ex k fun i u F1 H1 e1 a1 r1 k1 => ?_)
  cases (show u = V.int i from r1)
  unfold idx at k1
  cases q : atI xs i with
  | none => rw [q] at k1; exact k1.elim
  | some x =>
    rw [q] at k1
    obtain ⟨w, hw, rw_⟩ := Reps.at (i := i) hr (x := toD x) (by rw [atI_map, q]; rfl)
    exact ⟨p, vs, i, w, rfl, rfl, .inl (.inl (a1.h _ _ hp)), hw, k1 _ F1 H1 (Adv.refl a1.in_) (Rep.mono a1.f _ _ rw_)⟩

/-! ### tests, and, or, not -/
theorem et_test {m : Res Bool} (ha : EvX K W env te m) : EvT K W env (tTest te) m := fun F0 H0 F H σ Q S k => by
  refine ha F0 H0 F H σ _ S ?_
  cases m with
  | ok b => exact fun v F' H' a q => ⟨b, q, k F' H' a⟩
  | exc c => exact k
  | stuck => exact k.elim
theorem et_B {m : Res Bool} (ha : EvX K W env te m) : EvT K W env (tB te) m := et_test ha
theorem et_not {m : Res Bool} (ha : EvT K W env tt m) : EvT K W env (tNot tt) (m.bind fun b => .ok (!b)) := fun F0 H0 F H σ Q S k => by
  refine ha F0 H0 F H σ _ S ?_
  cases m with
  | ok b => exact k
  | exc c => exact k
  | stuck => exact k.elim
theorem et_and {m1 m2 : Res Bool} (ha : EvT K W env tt m1) (hb : EvT K W env tu m2) : EvT K W env (tAnd tt tu) (m1.bind fun b => cond b m2 (.ok false)) := fun F0 H0 F H σ Q S k => by
  refine ha F0 H0 F H σ _ S ?_
  cases m1 with
  | ok b =>
    intro F' H' a
    cases b with
    | true =>
      have k : KT K W F H σ Q m2 := k
      show tu σ H' Q
      exact hb F0 H0 F' H' σ Q (S.step a) (k.adv a)
    | false => exact k F' H' a
  | exc c => exact k
  | stuck => exact k.elim
theorem et_or {m1 m2 : Res Bool} (ha : EvT K W env tt m1) (hb : EvT K W env tu m2) : EvT K W env (tOr tt tu) (m1.bind fun b => cond b (.ok true) m2) := fun F0 H0 F H σ Q S k => by
  refine ha F0 H0 F H σ _ S ?_
  cases m1 with
  | ok b =>
    intro F' H' a
    cases b with
    | false =>
      have k : KT K W F H σ Q m2 := k
      show tu σ H' Q
      exact hb F0 H0 F' H' σ Q (S.step a) (k.adv a)
    | true => exact k F' H' a
  | exc c => exact k
  | stuck => exact k.elim
theorem ev_andV {m1 m2 : Res Bool} (ha : EvX K W env ta m1) (hb : EvX K W env tb m2) : EvX K W env (tAndV ta tb) (m1.bind fun b => cond b m2 (.ok false)) := fun F0 H0 F H σ Q S k => by
  refine ha F0 H0 F H σ _ S ?_
  cases m1 with
  | ok b =>
    intro v F' H' a r
    refine ⟨b, r, ?_⟩
    cases b with
    | true =>
      have k : KE K W F H σ Q m2 := k
      exact hb F0 H0 F' H' σ Q (S.step a) (k.adv a)
    | false => exact k _ F' H' a rfl
  | exc c => exact k
  | stuck => exact k.elim
theorem ev_orV {m1 m2 : Res Bool} (ha : EvX K W env ta m1) (hb : EvX K W env tb m2) : EvX K W env (tOrV ta tb) (m1.bind fun b => cond b (.ok true) m2) := fun F0 H0 F H σ Q S k => by
  refine ha F0 H0 F H σ _ S ?_
  cases m1 with
  | ok b =>
    intro v F' H' a r
    refine ⟨b, r, ?_⟩
    cases b with
    | false =>
      have k : KE K W F H σ Q m2 := k
      exact hb F0 H0 F' H' σ Q (S.step a) (k.adv a)
    | true => exact k _ F' H' a rfl
  | exc c => exact k
  | stuck => exact k.elim
theorem ev_notV {m : Res Bool} (ha : EvX K W env ta m) : EvX K W env (tNotV ta) (m.bind fun b => .ok (!b)) := fun F0 H0 F H σ Q S k => by
  refine ha F0 H0 F H σ _ S ?_
  cases m with
  | ok b => exact fun v F' H' a r => ⟨b, r, k _ F' H' a rfl⟩
  | exc c => exact k
  | stuck => exact k.elim
theorem ev_if {m : Res Bool} {m1 m2 : Res α} (hc : EvT K W env tt m) (ha : EvX K W env ta m1) (hb : EvX K W env tb m2) : EvX K W env (tIf tt ta tb) (m.bind fun b => cond b m1 m2) := fun F0 H0 F H σ Q S k => by
  refine hc F0 H0 F H σ _ S ?_
  cases m with
  | ok b =>
    intro F' H' a
    cases b with
    | true =>
      have k : KE K W F H σ Q m1 := k
      show ta σ H' Q
      exact ha F0 H0 F' H' σ Q (S.step a) (k.adv a)
    | false =>
      have k : KE K W F H σ Q m2 := k
      show tb σ H' Q
      exact hb F0 H0 F' H' σ Q (S.step a) (k.adv a)
  | exc c => exact k
  | stuck => exact k.elim
/-- a < b < c -/
theorem ev_chain {m1 : Res α} {m2 : Res β} {m3 : Res γ} {r' : R2} {f : α → β → Res Bool} {g : β → γ → Res Bool} (ho : OpX K r f) (hf : Mild f) (ho' : OpX K r' g) (hg : Mild g) (ha : EvX K W env ta m1) (hb : EvX K W env tb m2) (hc : EvX K W env tc m3) :
    EvX K W env (tChain r r' ta tb tc) (m1.bind fun x => m2.bind fun y => (f x y).bind fun b => cond b (m3.bind fun z => g y z) (.ok false)) := fun F0 H0 F H σ Q S k => by
  refine ha F0 H0 F H σ _ S (KE.cut S.ex k fun x v F1 H1 e1 a1 r1 k1 => ?_)
  refine hb F0 H0 F1 H1 σ _ (S.step a1) (KE.cut a1.in_ k1 fun y u F2 H2 e2 a2 r2 k2 => ?_)
  refine ho F2 H2 x y v u _ a2.in_ (Rep.mono a2.f _ _ r1) r2 ?_
  cases q : f x y with
  | ok b =>
    rw [q] at k2
    intro w F3 H3 a3 rb
    refine ⟨b, rb, ?_⟩
    cases b with
    | true =>
      have k3 : KE K W F2 H2 σ Q (m3.bind fun z => g y z) := k2
      show tc σ H3 _
      refine hc F0 H0 F3 H3 σ _ (((S.step a1).step a2).step a3) (KE.cut a3.in_ (k3.adv a3) fun z w F4 H4 e4 a4 r4 k4 => ?_)
      exact ho' F4 H4 y z u w Q a4.in_ (Rep.mono (a3.trans a4).f _ _ r2) r4 (k4.mild (hg y z))
    | false => exact k2 _ F3 H3 a3 rfl
  | exc c => exact absurd q (hf x y c)
  | stuck => rw [q] at k2; exact k2.elim

/-! ### arguments, displays, calls -/
theorem ea_nil : EvA K W env tNil (.ok ()) := fun F0 H0 F H σ Q S k => k [] F H (Adv.refl S.ex) rfl
theorem ea_cons {δ : Type} [ToDs δ] {t : TA} {m1 : Res α} {m2 : Res δ} (ha : EvX K W env te m1) (hb : EvA K W env t m2) : EvA K W env (tCons te t) (m1.bind fun x => m2.bind fun y => .ok (x, y)) := fun F0 H0 F H σ Q S k => by
  refine ha F0 H0 F H σ _ S ?_
  cases m1 with
  | ok x =>
    intro v F1 H1 a1 r1
    have k1 : KA K W F H σ Q (m2.bind fun y => .ok (x, y)) := k
    refine hb F0 H0 F1 H1 σ _ (S.step a1) ?_
    cases m2 with
    | ok y =>
      intro vs F2 H2 a2 r2
      exact k1 (v :: vs) F2 H2 (a1.trans a2) ⟨v, vs, rfl, Rep.mono a2.f _ _ r1, r2⟩
    | exc c => exact fun F2 H2 a2 => k1 F2 H2 (a1.trans a2)
    | stuck => exact k1.elim
  | exc c => exact k
  | stuck => exact k.elim
/-- a tuple that is made; its type by f -/
theorem ev_tup {δ : Type} [ToDs δ] {t : TA} {m : Res δ} {f : δ → α} (ha : EvA K W env t m) (hf : ∀ y : δ, toD (f y) = .tup (ToDs.ds y)) (hn : ∀ y : δ, (ToDs.ds y).length ≤ 100000) : EvX K W env (tTup t) (m.bind fun y => .ok (f y)) := fun F0 H0 F H σ Q S k => by
  refine ha F0 H0 F H σ _ S ?_
  cases m with
  | ok y =>
    intro vs F1 H1 a1 r1
    refine ⟨by rw [← r1.length]; exact Evl.sz_of (hn y), fun p hp => ?_⟩
    have a2 : Adv F1 H1 (upd F1 p (.tup vs)) (upd H1 p (.tup vs)) := Adv.new a1.in_ hp
    refine k _ _ _ (a1.trans a2) ?_
    rw [hf]
    exact ⟨p, vs, rfl, .inl (.inl upd_same), Reps.mono a2.f _ _ r1⟩
  | exc c => exact k
  | stuck => exact k.elim
/-- a list that is made -/
theorem en_lst {δ : Type} [ToDs δ] {t : TA} {m : Res δ} {f : δ → List α} (ha : EvA K W env t m) (hf : ∀ y : δ, (f y).map toD = ToDs.ds y) (hn : ∀ y : δ, (ToDs.ds y).length ≤ 100000) : EvN K W env (tLst t) (m.bind fun y => .ok (f y)) := fun F0 H0 F H σ Q S k => by
  refine ha F0 H0 F H σ _ S ?_
  cases m with
  | ok y =>
    intro vs F1 H1 a1 r1
    refine ⟨by rw [← r1.length]; exact Evl.sz_of (hn y), fun p hp => ?_⟩
    refine k p vs _ _ (a1.trans (Adv.newO a1.in_ hp)) (Evl.fresh_back a1.h hp) (none_of_ex a1.in_ hp) upd_same ?_
    rw [hf]
    exact r1
  | exc c => exact k
  | stuck => exact k.elim
/-- a new list as a value that is not changed later -/
theorem ev_ofN {m : Res (List α)} (h : EvN K W env te m) : EvX K W env te m := fun F0 H0 F H σ Q S k => by
  refine h F0 H0 F H σ Q S ?_
  cases m with
  | ok xs =>
    intro p vs F1 H1 a1 hp hf hh r
    have e : Ex F1 (upd F1 p (.lst vs)) := Ex.new hf
    refine k _ (upd F1 p (.lst vs)) H1 ⟨a1.f.trans e, a1.h, fun a u q => ?_, fun q h1 h2 => ?_⟩ ⟨p, vs, rfl, upd_same, Reps.mono e _ _ r⟩
    · by_cases z : a = p
      · subst z; rw [upd_same] at q; cases q; exact hh
      · rw [upd_ne z] at q; exact a1.in_ a u q
    · have z : q ≠ p := fun z => h2 (by rw [z]; exact hp)
      rw [upd_ne z]; exact a1.out q h1 h2
  | exc c => exact k
  | stuck => exact k.elim
/-- a def's promise, by the function that tells what it gives -/
def spM (K : PySem.W.Frag) {δ : Type} [ToDs δ] (f : δ → Res α) : Sp := fun vs H Q E => ∃ F x, Ex F H ∧ Reps K F (ToDs.ds x) vs ∧ KE K (fun cls d _ H => E cls d H) F H [] Q (f x)
theorem ev_call {δ : Type} [ToDs δ] {t : TA} {m : Res δ} {f : δ → Res α} (ha : EvA K W env t m) : EvX K W env (tCallS (spM K f) (WE W) t) (m.bind f) := fun F0 H0 F H σ Q S k => by
  refine ha F0 H0 F H σ _ S ?_
  cases m with
  | ok y =>
    intro vs F1 H1 a1 r1
    refine ⟨F1, y, a1.in_, r1, ?_⟩
    have k : KE K W F H σ Q (f y) := k
    have k := k.adv a1
    revert k
    generalize f y = z
    intro k
    cases z with
    | ok z => exact k
    | exc c => exact k
    | stuck => exact k.elim
  | exc c => exact k
  | stuck => exact k.elim
namespace Res
def noexc {α : Type} : Res α → Res α
  | .exc _ => .stuck
  | m => m
end Res
/-- a call of a def that lets nothing out there -/
theorem ev_call0 {δ : Type} [ToDs δ] {t : TA} {m : Res δ} {f : δ → Res α} (ha : EvA K W env t m) : EvX K W env (tCall (spM K f) [] E0 t) (m.bind fun y => (f y).noexc) := fun F0 H0 F H σ Q S k => by
  refine ha F0 H0 F H σ _ S ?_
  cases m with
  | ok y =>
    intro vs F1 H1 a1 r1
    refine ⟨F1, y, a1.in_, by rw [List.append_nil]; exact r1, ?_⟩
    have k : KE K W F H σ Q (f y).noexc := k
    have k := k.adv a1
    revert k
    generalize f y = z
    intro k
    cases z with
    | ok z => exact k
    | exc c => exact k.elim
    | stuck => exact k.elim
  | exc c => exact k
  | stuck => exact k.elim
/-- built-in defs by their values -/
def CrX (K : PySem.W.Frag) (r : List V → Hp → VK → Prop) {δ : Type} [ToDs δ] (f : δ → Res α) : Prop := ∀ (F H : Hp) (x : δ) (vs : List V) (Q : VK), Ex F H → Reps K F (ToDs.ds x) vs → KE K (fun _ _ _ _ => False) F H [] Q (f x) → r vs H Q
theorem ev_cb {δ : Type} [ToDs δ] {r : List V → Hp → VK → Prop} {t : TA} {m : Res δ} {f : δ → Res α} (ho : CrX K r f) (hm : ∀ x c, f x ≠ .exc c) (ha : EvA K W env t m) : EvX K W env (tCB r t) (m.bind f) := fun F0 H0 F H σ Q S k => by
  refine ha F0 H0 F H σ _ S ?_
  cases m with
  | ok y =>
    intro vs F1 H1 a1 r1
    have k : KE K W F H σ Q (f y) := k
    exact ho F1 H1 y vs Q a1.in_ r1 ((k.adv a1).mild (hm y))
  | exc c => exact k
  | stuck => exact k.elim
end
end Mi
set_option maxHeartbeats 1000000
namespace Mi
open PySem PySem.Spec L2
open Evl (Ex)

/-! ### statements -/
inductive EnLe : En → En → Prop
  | nil : EnLe [] []
  | same {e : Option Sk} {l m : En} : EnLe l m → EnLe (e :: l) (e :: m)
  | drop {e : Option Sk} {l m : En} : EnLe l m → EnLe (e :: l) (none :: m)
theorem EnLe.refl : ∀ l : En, EnLe l l
  | [] => .nil
  | _ :: l => .same (EnLe.refl l)
theorem EnLe.get : ∀ {l m : En}, EnLe l m → ∀ {i : Nat} {sk : Sk}, m[i]? = some (some sk) → l[i]? = some (some sk)
  | _, _, .nil, i, sk, h => h
  | _, _, .same t, 0, sk, h => h
  | _, _, .same t, i + 1, sk, h => EnLe.get t (by simpa using h)
  | _, _, .drop t, 0, sk, h => by simp at h
  | _, _, .drop t, i + 1, sk, h => EnLe.get t (by simpa using h)
theorem EnLe.len {l m : En} (h : EnLe l m) : l.length = m.length := by
  induction h with
  | nil => rfl
  | same _ ih => simp [ih]
  | drop _ ih => simp [ih]
theorem Sl.weak {K : PySem.W.Frag} {F0 H0 F H : Hp} {σ : L2.St} {env env' : En} (S : Sl K F0 H0 F H σ env) (h : EnLe env env') : Sl K F0 H0 F H σ env' :=
  ⟨S.adv, fun i sk e => S.slot i sk (h.get e), fun i j sk sk' p hij e1 e2 => S.dis i j sk sk' p hij (h.get e1) (h.get e2), S.len.trans h.len⟩
def Blk (K : PySem.W.Frag) (F0 H0 : Hp) {τ : Type} (KP : Res τ → Prop) (T : L2.St → Hp → Prop) (env : En) (m : Res τ) : Prop :=
  ∀ F H σ, Sl K F0 H0 F H σ env → KP m → T σ H
structure Lk (K : PySem.W.Frag) (W : WX) (F0 H0 : Hp) (rt : VK) (PT : En → Prop) {τ : Type} [ToD τ] (KP : Res τ → Prop) : Prop where
  ok : ∀ x, KP (.ok x) → ∀ v F H, Adv F0 H0 F H → Rep K F (toD x) v → rt v H
  exc : ∀ c F H σ env, KP (.exc c) → PT env → Sl K F0 H0 F H σ env → W (.ref (He.ga K c)) none σ H
  no : ¬ KP .stuck
section
variable {K : PySem.W.Frag} {W : WX} {F0 H0 F H F' H' F1 : Hp} {rt : VK} {PT : En → Prop} {env env' : En} {α β γ τ : Type} [ToD α] [ToD β] [ToD γ] [ToD τ] {KP : Res τ → Prop} {te ta tb tc : TE} {tt : TT} {Z : Ends} {t u : TS} {T : L2.St → Hp → Prop}
theorem Sl.base {σ : L2.St} (S : Sl K F0 H0 F1 H' σ env) {σ' : L2.St} (S' : Sl K F1 H0 F H σ' env') : Sl K F0 H0 F H σ' env' :=
  ⟨⟨S.adv.f.trans S'.adv.f, S'.adv.h, S'.adv.in_, fun p h1 h2 => S'.adv.out p (S.adv.out p h1 h2) h2⟩, S'.slot, S'.dis, S'.len⟩
theorem Lk.base (L : Lk K W F0 H0 rt PT KP) {σ : L2.St} (S : Sl K F0 H0 F1 H' σ env) : Lk K W F1 H0 rt PT KP :=
  ⟨fun x h v F H a r => L.ok x h v F H ⟨S.adv.f.trans a.f, a.h, a.in_, fun p h1 h2 => a.out p (S.adv.out p h1 h2) h2⟩ r,
   fun c F H σ' env' h p S' => L.exc c F H σ' env' h p (S.base S'), L.no⟩
theorem Blk.base {m : Res τ} (B : Blk K F0 H0 KP T env' m) {σ : L2.St} (S : Sl K F0 H0 F1 H' σ env) : Blk K F1 H0 KP T env' m := fun F H σ' S' h => B F H σ' (S.base S') h
theorem Blk.weak {m : Res τ} (B : Blk K F0 H0 KP T env' m) (h : EnLe env env') : Blk K F0 H0 KP T env m := fun F H σ S k => B F H σ (S.weak h) k

/-- what follows an expression in a block -/
theorem Lk.ke (L : Lk K W F0 H0 rt PT KP) (hT : PT env) {σ : L2.St} (S : Sl K F0 H0 F H σ env) {m : Res α} {f : α → Res τ} (h : KP (m.bind f)) {Q : VK}
    (k : ∀ x v F' H', m = .ok x → Adv F H F' H' → Rep K F' (toD x) v → KP (f x) → Q v H') : KE K W F H σ Q m := by
  cases m with
  | ok x => exact fun v F' H' a r => k x v F' H' rfl a r h
  | exc c => exact fun F' H' a => L.exc c F' H' σ env h hT (S.step a)
  | stuck => exact (L.no h).elim
theorem Lk.kt (L : Lk K W F0 H0 rt PT KP) (hT : PT env) {σ : L2.St} (S : Sl K F0 H0 F H σ env) {m : Res Bool} {f : Bool → Res τ} (h : KP (m.bind f)) {Q : Bool → Hp → Prop}
    (k : ∀ x F' H', m = .ok x → Adv F H F' H' → KP (f x) → Q x H') : KT K W F H σ Q m := by
  cases m with
  | ok x => exact fun F' H' a => k x F' H' rfl a h
  | exc c => exact fun F' H' a => L.exc c F' H' σ env h hT (S.step a)
  | stuck => exact (L.no h).elim
theorem Lk.kn (L : Lk K W F0 H0 rt PT KP) (hT : PT env) {σ : L2.St} (S : Sl K F0 H0 F H σ env) {m : Res (List α)} {f : List α → Res τ} (h : KP (m.bind f)) {Q : VK}
    (k : ∀ xs p vs F' H', m = .ok xs → Adv F H F' H' → H p = none → F' p = none → H' p = some (.lst vs) → Reps K F' (xs.map toD) vs → KP (f xs) → Q (.ref p) H') : KN K W F H σ Q m := by
  cases m with
  | ok x => exact fun p vs F' H' a h1 h2 h3 h4 => k x p vs F' H' rfl a h1 h2 h3 h4 h
  | exc c => exact fun F' H' a => L.exc c F' H' σ env h hT (S.step a)
  | stuck => exact (L.no h).elim

theorem blk_seq {m : Res τ} (h : Blk K F0 H0 KP (t { Z with nx := u Z }) env m) : Blk K F0 H0 KP (tSeq t u Z) env m := h
theorem blk_nil {m : Res τ} (h : Blk K F0 H0 KP Z.nx env m) : Blk K F0 H0 KP (tNext Z) env m := h

theorem Blk.nx {m : Res τ} {T bk ct : L2.St → Hp → Prop} {r : VK} (h : Blk K F0 H0 KP T env m) : Blk K F0 H0 KP (Ends.nx ⟨T, r, bk, ct⟩) env m := h
/-! targets -/
def GX (K : PySem.W.Frag) (g : TG) (x : D) (f : En → En) (ws : List Nat) : Prop := ∀ (F0 H0 F H : Hp) (σ : L2.St) (env : En) (v : V) (T : L2.St → Hp → Prop), Sl K F0 H0 F H σ env → Rep K F x v →
  (∀ σ', Sl K F0 H0 F H σ' (f env) → σ'.length = σ.length → (∀ j, j ∉ ws → σ'[j]? = σ[j]?) → T σ' H) → g v σ H T
def GXs (K : PySem.W.Frag) (g : TGs) (xs : List D) (f : En → En) (ws : List Nat) : Prop := ∀ (F0 H0 F H : Hp) (σ : L2.St) (env : En) (vs : List V) (T : L2.St → Hp → Prop), Sl K F0 H0 F H σ env → Reps K F xs vs →
  (∀ σ', Sl K F0 H0 F H σ' (f env) → σ'.length = σ.length → (∀ j, j ∉ ws → σ'[j]? = σ[j]?) → T σ' H) → g vs σ H T
def stE (i : Nat) (x : D) : En → En := fun env => env.set i (some (.im x))
theorem gx_name {i : Nat} {x : D} : GX K (gName i) x (stE i x) [i] := fun F0 H0 F H σ env v T S r k =>
  k _ (S.setIm r) (by rw [List.length_set]) fun j hj => List.getElem?_set_ne fun e => hj (by rw [e]; exact List.mem_singleton.mpr rfl)
theorem gxs_nil : GXs K gNil [] (fun e => e) [] := fun F0 H0 F H σ env vs T S r k => ⟨r, k σ S rfl fun _ _ => rfl⟩
theorem gxs_cons {g : TG} {gs : TGs} {x : D} {xs : List D} {f1 f2 : En → En} {w1 w2 : List Nat} (h1 : GX K g x f1 w1) (h2 : GXs K gs xs f2 w2) : GXs K (gCons g gs) (x :: xs) (fun e => f2 (f1 e)) (w1 ++ w2) := fun F0 H0 F H σ env vs T S r k => by
  obtain ⟨v, rs, rfl, r1, r2⟩ := r
  refine ⟨v, rs, rfl, h1 F0 H0 F H σ env v _ S r1 fun σ1 S1 l1 o1 => ?_⟩
  refine h2 F0 H0 F H σ1 _ rs T S1 r2 fun σ2 S2 l2 o2 => ?_
  refine k σ2 S2 (l2.trans l1) fun j hj => ?_
  rw [o2 j fun z => hj (List.mem_append_right _ z), o1 j fun z => hj (List.mem_append_left _ z)]
theorem gx_tup {gs : TGs} {n : Nat} {xs : List D} {f : En → En} {ws : List Nat} (h : GXs K gs xs f ws) (hn : xs.length = n) : GX K (gTup K n gs) (.tup xs) f ws := fun F0 H0 F H σ env v T S r k => by
  obtain ⟨a, vs, rfl, h1, h2⟩ := r
  exact ⟨a, vs, rfl, Evl.ex_t S.ex h1, by rw [← h2.length]; exact hn, h F0 H0 F H σ env vs T S h2 k⟩

theorem blk_asg {g : TG} {m : Res α} {f : α → Res τ} {fe : α → En → En} {ws : List Nat} (L : Lk K W F0 H0 rt PT KP) (hT : PT env) (he : EvX K W env te m) (hg : ∀ x, GX K g (toD x) (fe x) ws)
    (k : ∀ x, Blk K F0 H0 KP Z.nx (fe x env) (f x)) : Blk K F0 H0 KP (tAsg te g Z) env (m.bind f) := fun F H σ S h =>
  he F0 H0 F H σ _ S (L.ke hT S h fun x v F1 H1 e1 a1 r1 h1 => hg x F0 H0 F1 H1 σ env v _ (S.step a1) r1 fun σ' S' _ _ => k x F1 H1 σ' S' h1)
theorem blk_set {i : Nat} {m : Res α} {f : α → Res τ} (L : Lk K W F0 H0 rt PT KP) (hT : PT env) (he : EvX K W env te m)
    (k : ∀ x, Blk K F0 H0 KP Z.nx (env.set i (some (.im (toD x)))) (f x)) : Blk K F0 H0 KP (tAsg te (gName i) Z) env (m.bind f) :=
  blk_asg L hT he (fun _ => gx_name) k
/-- x = a new list that is changed later -/
theorem blk_own {i : Nat} {m : Res (List α)} {f : List α → Res τ} (L : Lk K W F0 H0 rt PT KP) (hT : PT env) (he : EvN K W env te m)
    (k : ∀ xs, Blk K F0 H0 KP Z.nx (env.set i (some (.ow (xs.map toD)))) (f xs)) : Blk K F0 H0 KP (tAsg te (gName i) Z) env (m.bind f) := fun F H σ S h =>
  he F0 H0 F H σ _ S (L.kn hT S h fun xs p vs F1 H1 e1 a1 hp hf hh r h1 => by
    have S1 := S.step a1
    refine k xs F1 H1 _ (S1.setOw (Evl.fresh_back S.adv.h hp) hf hh (fun j sk' e ho z => ?_) r) h1
    obtain ⟨v, e2, q⟩ := S.slot j _ e
    obtain ⟨p', o', rfl, _, _, q4⟩ := q.at ho
    rw [e2] at z
    cases z
    rw [hp] at q4; cases q4)
/-- x.append(e), x an owned list -/
theorem blk_app {i : Nat} {xs : List β} {m : Res β} {f : β → Res τ} (L : Lk K W F0 H0 rt PT KP) (hT : PT env) (hx : env[i]? = some (some (.ow (xs.map toD)))) (he : EvX K W env te m)
    (k : ∀ y, Blk K F0 H0 KP Z.nx (env.set i (some (.ow ((xs ++ [y]).map toD)))) (f y)) :
    Blk K F0 H0 KP (tDrop (tBM K "list" rAppend (tVar i) (tCons te tNil)) Z) env (m.bind fun y => .need (xs.length < 16777216) (f y)) := fun F H σ S h => by
  obtain ⟨v, e, p, vs, rfl, h0, hf, hp, hr⟩ := S.slot i _ hx
  refine ⟨_, e, .inl ⟨rfl, _, .inl (.inl hp)⟩, ?_⟩
  refine he F0 H0 F H σ _ S (L.ke hT S h fun y u F1 H1 e1 a1 r1 h1 => ?_)
  by_cases c : xs.length < 16777216
  · rw [Res.need_pos c] at h1
    have hr' := Reps.mono a1.f _ _ hr
    refine ⟨p, vs, u, rfl, rfl, a1.h _ _ hp, by rw [sizeLine_eq, ← hr.length, List.length_map]; exact c, ?_⟩
    refine k y F1 _ σ ((S.step a1).chg hx e (a1.out p hf (by rw [hp]; simp)) h0 ?_) h1
    rw [List.map_append]
    exact Reps.append hr' (Reps.one r1)
  · rw [Res.need_neg c] at h1
    exact (L.no h1).elim
/-- x[i] = e, x an owned list -/
theorem blk_setI {i : Nat} {xs : List β} {m : Res β} {mi : Res Int} {f : List β → Res τ} (L : Lk K W F0 H0 rt PT KP) (hT : PT env) (hx : env[i]? = some (some (.ow (xs.map toD)))) (he : EvX K W env te m) (hi : EvX K W env tb mi)
    (k : ∀ ys, Blk K F0 H0 KP Z.nx (env.set i (some (.ow (ys.map toD)))) (f ys)) :
    Blk K F0 H0 KP (tAsg te (gSub (tVar i) tb rSetL) Z) env (m.bind fun y => mi.bind fun j => match ixN xs.length j with | some a => f (xs.set a y) | none => .stuck) := fun F H σ S h => by
  obtain ⟨v, e, p, vs, rfl, h0, hf, hp, hr⟩ := S.slot i _ hx
  refine he F0 H0 F H σ _ S (L.ke hT S h fun y u F1 H1 e1 a1 r1 h1 => ?_)
  refine ⟨_, e, ?_⟩
  refine hi F0 H0 F1 H1 σ _ (S.step a1) (L.ke hT (S.step a1) h1 fun j w F2 H2 e2 a2 r2 h2 => ?_)
  cases (show w = V.int j from r2)
  have hr' := Reps.mono (a1.trans a2).f _ _ hr
  have ha := (a1.trans a2)
  have hl : vs.length = xs.length := by rw [← hr.length, List.length_map]
  cases q : ixN xs.length j with
  | none => rw [q] at h2; exact (L.no h2).elim
  | some a =>
    rw [q] at h2
    refine ⟨p, vs, j, a, rfl, rfl, ha.h _ _ hp, by rw [hl]; exact q, ?_⟩
    refine k (xs.set a y) F2 _ σ ((S.step ha).chg hx e (ha.out p hf (by rw [hp]; simp)) h0 ?_) h2
    rw [List.map_set]
    exact Reps.set a hr' (Rep.mono a2.f _ _ r1)
theorem blk_freeze {xs : List D} (i : Nat) {m : Res τ} (hx : env[i]? = some (some (.ow xs))) (k : Blk K F0 H0 KP T (env.set i (some (.im (.lst xs)))) m) : Blk K F0 H0 KP T env m := fun F H σ S h => by
  obtain ⟨F', _, S'⟩ := S.freeze hx
  exact k F' H σ S' h
theorem blk_if {m : Res Bool} {f : Bool → Res τ} (L : Lk K W F0 H0 rt PT KP) (hT : PT env) (hc : EvT K W env tt m) (h1 : Blk K F0 H0 KP (t Z) env (f true)) (h2 : Blk K F0 H0 KP (u Z) env (f false)) :
    Blk K F0 H0 KP (tIfS tt t u Z) env (m.bind f) := fun F H σ S h =>
  hc F0 H0 F H σ _ S (L.kt hT S h fun b F1 H1 e1 a1 k1 => by
    cases b with
    | true => exact h1 F1 H1 σ (S.step a1) k1
    | false => exact h2 F1 H1 σ (S.step a1) k1)
theorem blk_ret {m : Res τ} (L : Lk K W F0 H0 rt PT KP) (hT : PT env) (he : EvX K W env te m) (hZ : Z.rt = rt := by rfl) : Blk K F0 H0 KP (tRet te Z) env m := fun F H σ S h => by
  subst hZ
  rw [← Res.bind_pure m] at h
  exact he F0 H0 F H σ _ S (L.ke hT S h fun x v F1 H1 e1 a1 r1 h1 => L.ok x h1 v F1 H1 (S.adv.trans a1) r1)
/-- a value of another type is handed back -/
theorem blk_retAs {m : Res α} {f : α → τ} (L : Lk K W F0 H0 rt PT KP) (hT : PT env) (he : EvX K W env te m) (hf : ∀ x, toD (f x) = toD x) (hZ : Z.rt = rt := by rfl) : Blk K F0 H0 KP (tRet te Z) env (m.bind fun x => .ok (f x)) := fun F H σ S h => by
  subst hZ
  exact he F0 H0 F H σ _ S (L.ke hT S h fun x v F1 H1 e1 a1 r1 h1 => L.ok (f x) h1 v F1 H1 (S.adv.trans a1) (by rw [hf]; exact r1))
theorem blk_retN {x : τ} (L : Lk K W F0 H0 rt PT KP) (hx : toD x = .non) (hZ : Z.rt = rt := by rfl) : Blk K F0 H0 KP (tRetN Z) env (.ok x) := fun F H σ S h => by
  subst hZ
  exact L.ok x h .non F H S.adv (by rw [hx]; rfl)
theorem blk_expr {m : Res α} {f : α → Res τ} (L : Lk K W F0 H0 rt PT KP) (hT : PT env) (he : EvX K W env te m) (k : ∀ x, Blk K F0 H0 KP Z.nx env (f x)) : Blk K F0 H0 KP (tDrop te Z) env (m.bind f) := fun F H σ S h =>
  he F0 H0 F H σ _ S (L.ke hT S h fun x v F1 H1 e1 a1 r1 h1 => k x F1 H1 σ (S.step a1) h1)
/-- raise X('..') -/
theorem blk_raise {c : Str} (L : Lk K W F0 H0 rt PT KP) (hT : PT env) : Blk K F0 H0 KP (fun σ H => W (.ref (He.ga K c)) none σ H) env (.exc c) := fun F H σ S h => L.exc c F H σ env h hT S
theorem blk_raise1 {c : Str} {m : Res α} (L : Lk K W F0 H0 rt PT KP) (hT : PT env) (he : EvX K W env te m) : Blk K F0 H0 KP (fun σ H => te σ H fun _ H1 => W (.ref (He.ga K c)) none σ H1) env (m.bind fun _ => .exc c) := fun F H σ S h =>
  he F0 H0 F H σ _ S (L.ke hT S h fun x v F1 H1 e1 a1 r1 h1 => L.exc c F1 H1 σ env h1 hT (S.step a1))
/-- a, b = e1, e2 -/
theorem blk_par {i j : Nat} {m1 : Res α} {m2 : Res β} {f : α → β → Res τ} (L : Lk K W F0 H0 rt PT KP) (hT : PT env) (h1 : EvX K W env ta m1) (h2 : EvX K W env tb m2)
    (k : ∀ x y, Blk K F0 H0 KP Z.nx ((env.set i (some (.im (toD x)))).set j (some (.im (toD y)))) (f x y)) : Blk K F0 H0 KP (tPar i j (tCons ta (tCons tb tNil)) Z) env (m1.bind fun x => m2.bind fun y => f x y) := fun F H σ S h => by
  refine h1 F0 H0 F H σ _ S (L.ke hT S h fun x v F1 H1 e1 a1 r1 k1 => ?_)
  refine h2 F0 H0 F1 H1 σ _ (S.step a1) (L.ke hT (S.step a1) k1 fun y w F2 H2 e2 a2 r2 k2 => ?_)
  refine ⟨v, w, rfl, ?_⟩
  exact k x y F2 H2 _ ((((S.step a1).step a2).setIm (Rep.mono a2.f _ _ r1)).setIm r2) k2
/-- x op= e -/
theorem blk_aug {i : Nat} {x : Int} {m : Res Int} {f : Int → Res τ} {g : Int → Int → Int} (L : Lk K W F0 H0 rt PT KP) (hT : PT env) (hx : env[i]? = some (some (.im (.int x)))) (he : EvX K W env te m)
    (k : ∀ y, Blk K F0 H0 KP Z.nx (env.set i (some (.im (.int (g x y))))) (f y)) : Blk K F0 H0 KP (tAug i te (ipI g) Z) env (m.bind f) := fun F H σ S h => by
  obtain ⟨v, e, q⟩ := S.slot i _ hx
  cases (show v = V.int x from q)
  refine ⟨_, e, he F0 H0 F H σ _ S (L.ke hT S h fun y w F1 H1 e1 a1 r1 k1 => ?_)⟩
  exact ⟨x, y, rfl, r1, k y F1 H1 _ ((S.step a1).setIm rfl) k1⟩
theorem blk_augR {i : Nat} {x : α} {m : Res β} {f : γ → Res τ} {r : R2} {g : α → β → Res γ} (L : Lk K W F0 H0 rt PT KP) (hT : PT env) (hx : env[i]? = some (some (.im (toD x)))) (ho : OpX K r g) (hm : Mild g) (he : EvX K W env te m)
    (k : ∀ z, Blk K F0 H0 KP Z.nx (env.set i (some (.im (toD z)))) (f z)) : Blk K F0 H0 KP (tAug i te r Z) env (m.bind fun y => (g x y).bind f) := fun F H σ S h => by
  obtain ⟨v, e, q⟩ := S.slot i _ hx
  refine ⟨_, e, he F0 H0 F H σ _ S (L.ke hT S h fun y w F1 H1 e1 a1 r1 k1 => ?_)⟩
  refine ho F1 H1 x y v w _ a1.in_ (Rep.mono a1.f _ _ q) r1 ?_
  refine KE.mild (W := W) (σ := σ) (hm x y) ?_
  exact L.ke hT (S.step a1) k1 fun z u F2 H2 e2 a2 r2 k2 => k z F2 H2 _ (((S.step a1).step a2).setIm r2) k2

/-! ### loops -/
structure JS (K : PySem.W.Frag) (F : Hp) (J : It) (xs : List D) : Prop where
  go : ∀ i H, Ex F H → i < xs.length → J.go i H
  stop : ∀ i H, Ex F H → xs.length ≤ i → J.stop i H
  yld : ∀ i H v H' F1, Ex F F1 → Ex F1 H → i < xs.length → J.yld i H v H' → ∃ F2 x, Adv F1 H F2 H' ∧ xs[i]? = some x ∧ Rep K F2 x v
def KI (K : PySem.W.Frag) (W : WX) (F H : Hp) (σ : L2.St) {α : Type} [ToD α] (R : It → Hp → Prop) : Res (List α) → Prop
  | .ok xs => ∀ J F' H', Adv F H F' H' → JS K F' J (xs.map toD) → R J H'
  | .exc c => ∀ F' H', Adv F H F' H' → W (.ref (He.ga K c)) none σ H'
  | .stuck => False
def EvI (K : PySem.W.Frag) (W : WX) (env : En) (wi : TI) {α : Type} [ToD α] (m : Res (List α)) : Prop :=
  ∀ F0 H0 F H σ R, Sl K F0 H0 F H σ env → KI K W F H σ R m → wi σ H R
theorem Lk.ki (L : Lk K W F0 H0 rt PT KP) (hT : PT env) {σ : L2.St} (S : Sl K F0 H0 F H σ env) {m : Res (List α)} {f : List α → Res τ} (h : KP (m.bind f)) {R : It → Hp → Prop}
    (k : ∀ xs J F' H', m = .ok xs → Adv F H F' H' → JS K F' J (xs.map toD) → KP (f xs) → R J H') : KI K W F H σ R m := by
  cases m with
  | ok x => exact fun J F' H' a h1 => k x J F' H' rfl a h1 h
  | exc c => exact fun F' H' a => L.exc c F' H' σ env h hT (S.step a)
  | stuck => exact (L.no h).elim
theorem js_list {a : Addr} {vs : List V} {xs : List D} (hl : SqL K F a vs) (hr : Reps K F xs vs) : JS K F (Itl K a) xs := by
  have hn := hr.length
  refine ⟨fun i H e hi => ?_, fun i H e hi => ?_, fun i H v H' F1 e1 e2 hi hy => ?_⟩
  · exact ⟨vs, vs[i]'(by omega), Evl.ex_l e hl, List.getElem?_eq_getElem (by omega)⟩
  · exact ⟨vs, Evl.ex_l e hl, by omega⟩
  · obtain ⟨e, f⟩ := hy
    subst e
    have g := f vs (Evl.ex_l (e1.trans e2) hl)
    obtain ⟨w, q1, q2⟩ := hr.get (i := i) (e := xs[i]) (List.getElem?_eq_getElem hi)
    rw [g] at q1; cases q1
    exact ⟨F1, xs[i], Adv.refl e2, List.getElem?_eq_getElem hi, Rep.mono e1 _ _ q2⟩
theorem js_tup {a : Addr} {vs : List V} {xs : List D} (hl : SqT K F a vs) (hr : Reps K F xs vs) : JS K F (Itt K a) xs := by
  have hn := hr.length
  refine ⟨fun i H e hi => ?_, fun i H e hi => ?_, fun i H v H' F1 e1 e2 hi hy => ?_⟩
  · exact ⟨vs, vs[i]'(by omega), Evl.ex_t e hl, List.getElem?_eq_getElem (by omega)⟩
  · exact ⟨vs, Evl.ex_t e hl, by omega⟩
  · obtain ⟨e, f⟩ := hy
    subst e
    have g := f vs (Evl.ex_t (e1.trans e2) hl)
    obtain ⟨w, q1, q2⟩ := hr.get (i := i) (e := xs[i]) (List.getElem?_eq_getElem hi)
    rw [g] at q1; cases q1
    exact ⟨F1, xs[i], Adv.refl e2, List.getElem?_eq_getElem hi, Rep.mono e1 _ _ q2⟩
theorem ei_list {m : Res (List α)} (h : EvX K W env te m) : EvI K W env (iList K te) m := fun F0 H0 F H σ R S k => by
  refine h F0 H0 F H σ _ S ?_
  cases m with
  | ok xs =>
    intro v F1 H1 a r
    obtain ⟨p, vs, rfl, h1, h2⟩ := r
    exact ⟨p, rfl, ⟨vs, sq_ex a.in_ h1⟩, k _ F1 H1 a (js_list (Evl.sq_of h1) h2)⟩
  | exc c => exact k
  | stuck => exact k.elim
theorem ei_tup {m : Res (Tu α)} (h : EvX K W env te m) : EvI K W env (iTup K te) (m.bind fun x => .ok x.xs) := fun F0 H0 F H σ R S k => by
  refine h F0 H0 F H σ _ S ?_
  cases m with
  | ok xs =>
    intro v F1 H1 a r
    obtain ⟨p, vs, rfl, h1, h2⟩ := r
    exact ⟨p, rfl, ⟨vs, Evl.ex_t a.in_ h1⟩, k _ F1 H1 a (js_tup h1 h2)⟩
  | exc c => exact k
  | stuck => exact k.elim
def pyRange (lo hi : Int) : List Int := (List.range (hi - lo).toNat).map fun (i : Nat) => lo + (i : Int)
theorem pyRange_len (lo hi : Int) : (pyRange lo hi).length = (hi - lo).toNat := by simp [pyRange]
theorem pyRange_get {lo hi : Int} {i : Nat} (h : i < (hi - lo).toNat) : (pyRange lo hi)[i]? = some (lo + (i : Int)) := by
  simp [pyRange, h]
theorem js_range {lo hi : Int} : JS K F (Itr lo (hi - lo).toNat) ((pyRange lo hi).map toD) := by
  refine ⟨fun i H e h => ?_, fun i H e h => ?_, fun i H v H' F1 e1 e2 h hy => ?_⟩
  · rw [List.length_map, pyRange_len] at h; exact h
  · rw [List.length_map, pyRange_len] at h; exact h
  · rw [List.length_map, pyRange_len] at h
    obtain ⟨e, q⟩ := hy
    subst e q
    exact ⟨F1, .int (lo + (i : Int)), Adv.refl e2, by rw [List.getElem?_map, pyRange_get h]; rfl, rfl⟩
abbrev okRange (i : Int) : Prop := -(2 ^ 62) ≤ i ∧ i < 2 ^ 62
theorem ei_range1 {m : Res Int} (h : EvX K W env te m) : EvI K W env (iRng1 (tCons te tNil)) (m.bind fun j => .need (okRange j) (.ok (pyRange 0 j))) := fun F0 H0 F H σ R S k => by
  refine h F0 H0 F H σ _ S ?_
  cases m with
  | ok j =>
    intro v F1 H1 a r
    cases (show v = V.int j from r)
    have k : KI K W F H σ R (.need (okRange j) (.ok (pyRange 0 j))) := k
    by_cases c : okRange j
    · rw [Res.need_pos c] at k
      refine ⟨j, rfl, c.1, c.2, k _ F1 H1 a ?_⟩
      have := js_range (K := K) (F := F1) (lo := 0) (hi := j)
      rw [Int.sub_zero] at this
      exact this
    · rw [Res.need_neg c] at k; exact k.elim
  | exc c => exact k
  | stuck => exact k.elim
theorem ei_range2 {m1 m2 : Res Int} (h1 : EvX K W env ta m1) (h2 : EvX K W env tb m2) : EvI K W env (iRng2 (tCons ta (tCons tb tNil))) (m1.bind fun i => m2.bind fun j => .need (okRange i ∧ okRange j) (.ok (pyRange i j))) := fun F0 H0 F H σ R S k => by
  refine h1 F0 H0 F H σ _ S ?_
  cases m1 with
  | ok i =>
    intro v F1 H1 a r
    cases (show v = V.int i from r)
    refine h2 F0 H0 F1 H1 σ _ (S.step a) ?_
    have k : KI K W F H σ R (m2.bind fun j => .need (okRange i ∧ okRange j) (.ok (pyRange i j))) := k
    cases m2 with
    | ok j =>
      intro v F2 H2 a2 r
      cases (show v = V.int j from r)
      have k : KI K W F H σ R (.need (okRange i ∧ okRange j) (.ok (pyRange i j))) := k
      by_cases c : okRange i ∧ okRange j
      · rw [Res.need_pos c] at k
        exact ⟨i, j, rfl, ⟨c.1.1, c.1.2, c.2.1, c.2.2⟩, k _ F2 H2 (a.trans a2) js_range⟩
      · rw [Res.need_neg c] at k; exact k.elim
    | exc c => exact fun F2 H2 a2 => k F2 H2 (a.trans a2)
    | stuck => exact k.elim
  | exc c => exact k
  | stuck => exact k.elim
/-- range(i, j, -1) -/
def pyDown (i j : Int) : List Int := (List.range (i - j).toNat).map fun (a : Nat) => i - (a : Int)
theorem pyDown_len (lo hi : Int) : (pyDown lo hi).length = (lo - hi).toNat := by simp [pyDown]
theorem pyDown_get {lo hi : Int} {i : Nat} (h : i < (lo - hi).toNat) : (pyDown lo hi)[i]? = some (lo - (i : Int)) := by
  simp [pyDown, h]
theorem js_down {lo hi : Int} : JS K F (Itc lo (-1) (lo - hi).toNat) ((pyDown lo hi).map toD) := by
  refine ⟨fun i H e h => ?_, fun i H e h => ?_, fun i H v H' F1 e1 e2 h hy => ?_⟩
  · rw [List.length_map, pyDown_len] at h; exact h
  · rw [List.length_map, pyDown_len] at h; exact h
  · rw [List.length_map, pyDown_len] at h
    obtain ⟨e, q⟩ := hy
    subst e q
    refine ⟨F1, .int (lo - (i : Int)), Adv.refl e2, by rw [List.getElem?_map, pyDown_get h]; rfl, ?_⟩
    show V.int _ = V.int _
    congr 1; omega
theorem ei_down {m1 m2 : Res Int} (h1 : EvX K W env ta m1) (h2 : EvX K W env tb m2) (h3 : EvX K W env tc (.ok (-1 : Int))) : EvI K W env (iRng3 (tCons ta (tCons tb (tCons tc tNil)))) (m1.bind fun i => m2.bind fun j => .need (okRange i ∧ okRange j) (.ok (pyDown i j))) := fun F0 H0 F H σ R S k => by
  refine h1 F0 H0 F H σ _ S ?_
  cases m1 with
  | ok i =>
    intro v F1 H1 a r
    cases (show v = V.int i from r)
    refine h2 F0 H0 F1 H1 σ _ (S.step a) ?_
    have k : KI K W F H σ R (m2.bind fun j => .need (okRange i ∧ okRange j) (.ok (pyDown i j))) := k
    cases m2 with
    | ok j =>
      intro v F2 H2 a2 r
      cases (show v = V.int j from r)
      refine h3 F0 H0 F2 H2 σ _ ((S.step a).step a2) fun v F3 H3 a3 r => ?_
      cases (show v = V.int (-1) from r)
      have k : KI K W F H σ R (.need (okRange i ∧ okRange j) (.ok (pyDown i j))) := k
      by_cases c : okRange i ∧ okRange j
      · rw [Res.need_pos c] at k
        exact ⟨i, j, -1, (i - j).toNat, rfl, RgC.neg c.1.1 c.1.2 c.2.1 c.2.2, k _ F3 H3 ((a.trans a2).trans a3) js_down⟩
      · rw [Res.need_neg c] at k; exact k.elim
    | exc c => exact fun F2 H2 a2 => k F2 H2 (a.trans a2)
    | stuck => exact k.elim
  | exc c => exact k
  | stuck => exact k.elim

theorem blk_for {S : Type} {wi : TI} {g : TG} {tb : TS} {m : Res (List α)} {fe : α → En → En} {ws : List Nat} (loop : List α → S → Res τ) (k : S → Res τ) (envS : S → En) (s0 : S)
    (L : Lk K W F0 H0 rt PT KP) (hT : PT env) (hi : EvI K W env wi m) (hg : ∀ x, GX K g (toD x) (fe x) ws) (h0 : EnLe env (envS s0)) (hnil : ∀ s, loop [] s = k s)
    (hbody : ∀ F1, Lk K W F1 H0 rt PT KP → (∀ s, Blk K F1 H0 KP Z.nx (envS s) (k s)) → ∀ x r s (N : L2.St → Hp → Prop), (∀ s', Blk K F1 H0 KP N (envS s') (loop r s')) →
      Blk K F1 H0 KP (tb { Z with nx := N, ct := N, bk := Z.nx }) (fe x (envS s)) (loop (x :: r) s))
    (hrest : ∀ s, Blk K F0 H0 KP Z.nx (envS s) (k s)) : Blk K F0 H0 KP (tFor wi g tb Z) env (m.bind fun xs => loop xs s0) := fun F H σ S h => by
  refine hi F0 H0 F H σ _ S (L.ki hT S h fun xs J F1 H1 e1 a1 js h1 => ?_)
  have S1 := (S.step a1).weak h0
  have S11 : Sl K F1 H0 F1 H1 σ (envS s0) := ⟨⟨Ex.refl _, S1.adv.h, S1.adv.in_, fun p q _ => q⟩, S1.slot, S1.dis, S1.len⟩
  have hB := hbody F1 (L.base S1) (fun s => (hrest s).base S1)
  have hn : (xs.map toD).length = xs.length := List.length_map ..
  refine ⟨fun i m σ H => m = xs.length - i ∧ i ≤ xs.length ∧ ∃ F s, Sl K F1 H0 F H σ (envS s) ∧ KP (loop (xs.drop i) s), ⟨xs.length, rfl, Nat.zero_le _, F1, s0, S11, h1⟩, ?_⟩
  rintro i m σ H ⟨rfl, hle, F, s, S, h⟩
  by_cases hlt : i < xs.length
  · refine .inr ⟨js.go i H (S.adv.f.trans S.ex) (by rw [hn]; exact hlt), fun σ' H' => ∃ F s, Sl K F1 H0 F H' σ' (envS s) ∧ KP (loop (xs.drop (i + 1)) s), fun σ' H' w => ⟨_, by omega, rfl, hlt, w⟩, fun v H' hy => ?_⟩
    obtain ⟨F2, x, a2, ex, rx⟩ := js.yld i H v H' F S.adv.f S.ex (by rw [hn]; exact hlt) hy
    rw [List.getElem?_map, List.getElem?_eq_getElem hlt] at ex
    cases ex
    refine hg xs[i] F1 H0 F2 H' σ (envS s) v _ (S.step a2) rx fun σ' S' _ _ => ?_
    have e : xs.drop i = xs[i] :: xs.drop (i + 1) := List.drop_eq_getElem_cons hlt
    rw [e] at h
    exact hB xs[i] (xs.drop (i + 1)) s _ (fun s' F H σ S h => ⟨F, s', S, h⟩) F2 H' σ' S' h
  · have e : xs.drop i = [] := List.drop_of_length_le (by omega)
    rw [e, hnil] at h
    exact .inl ⟨js.stop i H (S.adv.f.trans S.ex) (by rw [hn]; omega), (hrest s).base S1 F H σ S h⟩
theorem blk_while {S : Type} {tb : TS} (loop : Nat → S → Res τ) (test : S → Res Bool) (body : Nat → S → Res τ) (k : S → Res τ) (envS : S → En) (s0 : S) (fuel : Nat)
    (L : Lk K W F0 H0 rt PT KP) (hT : ∀ s, PT (envS s)) (h0 : EnLe env (envS s0)) (hc : ∀ s, EvT K W (envS s) tt (test s)) (l0 : ∀ s, loop 0 s = .stuck) (l1 : ∀ n s, loop (n + 1) s = (test s).bind fun b => cond b (body n s) (k s))
    (hbody : ∀ n s (N : L2.St → Hp → Prop), (∀ s', Blk K F0 H0 KP N (envS s') (loop n s')) → Blk K F0 H0 KP (tb { Z with nx := N, ct := N, bk := Z.nx }) (envS s) (body n s))
    (hrest : ∀ s, Blk K F0 H0 KP Z.nx (envS s) (k s)) : Blk K F0 H0 KP (tWhile tt tb Z) env (loop fuel s0) := fun F H σ S h => by
  refine ⟨fun n σ H => ∃ F s, Sl K F0 H0 F H σ (envS s) ∧ KP (loop n s), ⟨fuel, F, s0, S.weak h0, h⟩, ?_⟩
  rintro n σ H ⟨F, s, S, h⟩
  cases n with
  | zero => rw [l0] at h; exact (L.no h).elim
  | succ n =>
    rw [l1] at h
    refine hc s F0 H0 F H σ _ S (L.kt (hT s) S h fun b F1 H1 e1 a1 h1 => ?_)
    cases b with
    | true =>
      show ∃ N, _
      exact ⟨fun σ' H' => ∃ F s, Sl K F0 H0 F H' σ' (envS s) ∧ KP (loop n s), fun σ' H' w => ⟨n, Nat.lt_succ_self n, w⟩, hbody n s _ (fun s' F H σ S h => ⟨F, s', S, h⟩) F1 H1 σ (S.step a1) h1⟩
    | false => exact hrest s F1 H1 σ (S.step a1) h1

/-! ### comprehensions -/
def compL {α β : Type} (t : α → Res Bool) (e : α → Res β) : List α → Res (List β)
  | [] => .ok []
  | x :: r => (t x).bind fun b => cond b ((e x).bind fun y => (compL t e r).bind fun ys => .ok (y :: ys)) (compL t e r)
def mapL {α β : Type} (e : α → Res β) : List α → Res (List β)
  | [] => .ok []
  | x :: r => (e x).bind fun y => (mapL e r).bind fun ys => .ok (y :: ys)
theorem compL_yes {α β : Type} (e : α → Res β) : ∀ xs : List α, compL (fun _ => .ok true) e xs = mapL e xs
  | [] => rfl
  | x :: r => by
    show (e x).bind _ = (e x).bind _
    rw [compL_yes e r]
end
end Mi
set_option maxHeartbeats 1000000
namespace Mi
open PySem PySem.Spec L2
open Evl (Ex)
section
variable {K : PySem.W.Frag} {W : WX} {F0 H0 F H F' H' F1 : Hp} {rt : VK} {PT : En → Prop} {env env' : En} {α β γ τ : Type} [ToD α] [ToD β] [ToD γ] [ToD τ] {KP : Res τ → Prop} {te ta tb tc : TE} {tt : TT} {Z : Ends} {t u : TS} {T : L2.St → Hp → Prop} {σ : L2.St}

/-! ### comprehensions -/
theorem Sl.updN (S : Sl K F0 H0 F H σ env) {p : Addr} {o : HO} (hp : F p = none) (h0 : H0 p = none) (hn : ∀ (i : Nat) (sk : Sk), env[i]? = some (some sk) → sk.own = true → σ[i]? ≠ some (some (V.ref p))) : Sl K F0 H0 F (upd H p o) σ env := by
  refine ⟨⟨S.adv.f, fun a u q => ?_, fun a u q => ?_, S.adv.out⟩, fun j sk q => ?_, S.dis, S.len⟩
  · rw [upd_ne (ne_of_none q h0)]; exact S.adv.h a u q
  · rw [upd_ne (ne_of_none q hp)]; exact S.adv.in_ a u q
  · obtain ⟨w, h1, h2⟩ := S.slot j sk q
    exact ⟨w, h1, h2.updH fun o2 zz => hn j sk q o2 (by rw [h1, zz])⟩
/-- the names of a comprehension are forgotten -/
def unset : List Nat → En → En
  | [], e => e
  | i :: is, e => (unset is e).set i none
theorem unset_len (e : En) : ∀ ws : List Nat, (unset ws e).length = e.length
  | [] => rfl
  | i :: is => by show ((unset is e).set i none).length = _; rw [List.length_set, unset_len e is]
theorem unset_get {e : En} {j : Nat} {sk : Sk} : ∀ {ws : List Nat}, (unset ws e)[j]? = some (some sk) → e[j]? = some (some sk) ∧ j ∉ ws
  | [], h => ⟨h, by simp⟩
  | i :: is, h => by
    have h : ((unset is e).set i none)[j]? = some (some sk) := h
    rcases set_get h with ⟨_, z⟩ | ⟨z, h⟩
    · cases z
    · obtain ⟨h1, h2⟩ := unset_get h
      exact ⟨h1, by simp only [List.mem_cons, not_or]; exact ⟨fun e => z e.symm, h2⟩⟩
theorem Sl.wipe (S : Sl K F0 H0 F H σ env) (ws : List Nat) : Sl K F0 H0 F H (L2.wipe σ ws) (unset ws env) := by
  refine ⟨S.adv, fun i sk e => ?_, fun i j xs ys p hij e1 e2 o1 o2 h1 => ?_, by rw [wipe_length, unset_len]; exact S.len⟩
  · obtain ⟨e, hn⟩ := unset_get e
    rw [wipe_out hn]; exact S.slot i sk e
  · obtain ⟨e1, n1⟩ := unset_get e1
    obtain ⟨e2, n2⟩ := unset_get e2
    rw [wipe_out n1] at h1
    rw [wipe_out n2]
    exact S.dis i j xs ys p hij e1 e2 o1 o2 h1
theorem wipe_in {j : Nat} : ∀ {ws : List Nat}, j ∈ ws → j < σ.length → (L2.wipe σ ws)[j]? = some none
  | [], h, _ => by cases h
  | i :: is, h, hl => by
    show ((L2.wipe σ is).set i none)[j]? = some none
    by_cases e : i = j
    · subst e
      rw [List.getElem?_set_self (by rw [wipe_length]; exact hl)]
    · rw [List.getElem?_set_ne e]
      rcases List.mem_cons.mp h with z | z
      · exact absurd z.symm e
      · exact wipe_in z hl
theorem wipe_eq {σ' : L2.St} {ws : List Nat} (hl : σ'.length = (L2.wipe σ ws).length) (ho : ∀ j, j ∉ ws → σ'[j]? = (L2.wipe σ ws)[j]?) : L2.wipe σ' ws = L2.wipe σ ws := by
  rw [wipe_length] at hl
  apply List.ext_getElem?
  intro j
  by_cases hj : j ∈ ws
  · by_cases hlt : j < σ.length
    · rw [wipe_in hj hlt, wipe_in hj (by rw [hl]; exact hlt)]
    · rw [List.getElem?_eq_none (by rw [wipe_length]; omega), List.getElem?_eq_none (by rw [wipe_length]; omega)]
  · rw [wipe_out hj, ho j hj]
abbrev WT : WX := fun _ _ _ _ => True
theorem ev_comp {wi : TI} {g : TG} {m : Res (List α)} {fe : α → En → En} {ws : List Nat} {tst : α → Res Bool} {el : α → Res β} (hi : EvI K W env wi m) (hg : ∀ x, GX K g (toD x) (fe x) ws)
    (ht : ∀ x, EvT K WT (fe x (unset ws env)) tt (tst x)) (he : ∀ x, EvX K WT (fe x (unset ws env)) te (el x)) :
    EvN K W env (tLc wi g tt te ws) (m.bind fun xs => .need (xs.length ≤ 16777216) (compL tst el xs)) := fun F0 H0 F H σ Q S k => by
  refine hi F0 H0 F H σ _ S ?_
  cases m with
  | exc c => exact k
  | stuck => exact k.elim
  | ok xs =>
  intro J F1 H1 a1 js D hD
  have k : KN K W F H σ Q (.need (xs.length ≤ 16777216) (compL tst el xs)) := k
  by_cases c : xs.length ≤ 16777216
  case neg => rw [Res.need_neg c] at k; exact k.elim
  rw [Res.need_pos c] at k
  have hn : (xs.map toD).length = xs.length := List.length_map ..
  have hDF : F1 D = none := none_of_ex a1.in_ hD
  have hDH : H D = none := Evl.fresh_back a1.h hD
  have hD0 : H0 D = none := Evl.fresh_back S.adv.h hDH
  -- the new list is none of the slots'
  have hne : ∀ (i : Nat) (sk : Sk), env[i]? = some (some sk) → sk.own = true → σ[i]? ≠ some (some (V.ref D)) := fun i sk e ho z => by
    obtain ⟨v, e1, q⟩ := S.slot i _ e
    obtain ⟨p, o, rfl, _, _, q⟩ := q.at ho
    rw [e1] at z; cases z
    rw [hDH] at q; cases q
  have S1 : Sl K F0 H0 F1 (upd H1 D (.lst [])) σ env := (S.step a1).updN hDF hD0 hne
  refine ⟨fun i n H' => n = xs.length - i ∧ i ≤ xs.length ∧ ∃ F' acc vs, Sl K F0 H0 F' H' σ env ∧ Adv F H F' H' ∧ Ex F1 F' ∧ F' D = none ∧ H' D = some (.lst vs) ∧ Reps K F' (acc.map toD) vs ∧ acc.length ≤ i ∧
    (∀ ys, compL tst el (xs.drop i) = .ok ys → compL tst el xs = .ok (acc ++ ys)) ∧ (∀ c, compL tst el (xs.drop i) = .exc c → compL tst el xs = .exc c) ∧ (compL tst el (xs.drop i) = .stuck → compL tst el xs = .stuck),
    ⟨xs.length, rfl, Nat.zero_le _, F1, ([] : List β), [], S1, a1.trans (Adv.newO a1.in_ hD), Ex.refl _, hDF, upd_same, (show Reps K F1 [] [] from rfl), Nat.le_refl _, fun ys h => h, fun c h => h, fun h => h⟩, ?_⟩
  rintro i n H2 ⟨rfl, hle, F2, acc, vs, S2, a2, x2, f2, h2, r2, l2, q1, q2, q3⟩
  by_cases hlt : i < xs.length
  · refine .inr ⟨js.go i H2 (x2.trans a2.in_) (by rw [hn]; exact hlt), fun H' => (i + 1 ≤ xs.length ∧ ∃ F' acc vs, Sl K F0 H0 F' H' σ env ∧ Adv F H F' H' ∧ Ex F1 F' ∧ F' D = none ∧ H' D = some (.lst vs) ∧ Reps K F' (acc.map toD) vs ∧ acc.length ≤ i + 1 ∧
      (∀ ys, compL tst el (xs.drop (i + 1)) = .ok ys → compL tst el xs = .ok (acc ++ ys)) ∧ (∀ c, compL tst el (xs.drop (i + 1)) = .exc c → compL tst el xs = .exc c) ∧ (compL tst el (xs.drop (i + 1)) = .stuck → compL tst el xs = .stuck)),
      fun H' w => ⟨_, by omega, rfl, w⟩, fun v H3 hy => ?_⟩
    obtain ⟨F3, x, a3, ex, rx⟩ := js.yld i H2 v H3 F2 x2 a2.in_ (by rw [hn]; exact hlt) hy
    rw [List.getElem?_map, List.getElem?_eq_getElem hlt] at ex
    cases ex
    have e : xs.drop i = xs[i] :: xs.drop (i + 1) := List.drop_eq_getElem_cons hlt
    rw [e] at q1 q2 q3
    have S3 := S2.step a3
    refine hg xs[i] F0 H0 F3 H3 _ _ v _ (S3.wipe ws) rx fun σ' S' sl so => ⟨wipe_eq sl so, ?_⟩
    have f3 : F3 D = none := a3.out D f2 (by rw [h2]; simp)
    refine ht xs[i] F0 H0 F3 H3 σ' _ S' ?_
    cases qt : tst xs[i] with
    | exc c => exact fun _ _ _ => trivial
    | stuck =>
      have := q3 (by show (tst xs[i]).bind _ = _; rw [qt]; rfl)
      rw [this] at k; exact k.elim
    | ok b =>
    intro F4 H4 a4
    have f4 : F4 D = none := a4.out D f3 (by rw [a3.h _ _ h2]; simp)
    cases b with
    | false =>
      show i + 1 ≤ xs.length ∧ _
      refine ⟨hlt, F4, acc, vs, S3.step a4, (a2.trans a3).trans a4, (x2.trans a3.f).trans a4.f, f4, a4.h _ _ (a3.h _ _ h2), Reps.mono (a3.trans a4).f _ _ r2, by omega, fun ys h => ?_, fun c h => ?_, fun h => ?_⟩
      · exact q1 ys (by show (tst xs[i]).bind _ = _; rw [qt]; exact h)
      · exact q2 c (by show (tst xs[i]).bind _ = _; rw [qt]; exact h)
      · exact q3 (by show (tst xs[i]).bind _ = _; rw [qt]; exact h)
    | true =>
      show te σ' H4 _
      refine he xs[i] F0 H0 F4 H4 σ' _ (S'.step a4) ?_
      cases qe : el xs[i] with
      | exc c => exact fun _ _ _ => trivial
      | stuck =>
        have := q3 (by show (tst xs[i]).bind _ = _; rw [qt]; show (el xs[i]).bind _ = _; rw [qe]; rfl)
        rw [this] at k; exact k.elim
      | ok y =>
      intro w F5 H5 a5 r5
      have f5 : F5 D = none := a5.out D f4 (by rw [a4.h _ _ (a3.h _ _ h2)]; simp)
      have h5 : H5 D = some (.lst vs) := a5.h _ _ (a4.h _ _ (a3.h _ _ h2))
      have ad := ((a2.trans a3).trans a4).trans a5
      refine ⟨vs, h5, by rw [sizeLine_eq, ← r2.length, List.length_map]; omega, hlt, F5, acc ++ [y], vs ++ [w], ((S3.step a4).step a5).updN f5 hD0 hne, ⟨ad.f, fun a u q => ?_, fun a u q => ?_, ad.out⟩,
        ((x2.trans a3.f).trans a4.f).trans a5.f, f5, upd_same, ?_, by rw [List.length_append]; simp; omega, fun ys h => ?_, fun c h => ?_, fun h => ?_⟩
      · rw [upd_ne (ne_of_none q hDH)]; exact ad.h a u q
      · rw [upd_ne (ne_of_none q f5)]; exact ad.in_ a u q
      · rw [List.map_append]
        exact Reps.append (Reps.mono ((a3.trans a4).trans a5).f _ _ r2) (Reps.one r5)
      · rw [q1 (y :: ys) (by show (tst xs[i]).bind _ = _; rw [qt]; show (el xs[i]).bind _ = _; rw [qe]; show (compL tst el _).bind _ = _; rw [h]; rfl)]
        rw [List.append_assoc]; rfl
      · exact q2 c (by show (tst xs[i]).bind _ = _; rw [qt]; show (el xs[i]).bind _ = _; rw [qe]; show (compL tst el _).bind _ = _; rw [h]; rfl)
      · exact q3 (by show (tst xs[i]).bind _ = _; rw [qt]; show (el xs[i]).bind _ = _; rw [qe]; show (compL tst el _).bind _ = _; rw [h]; rfl)
  · have e : xs.drop i = [] := List.drop_of_length_le (by omega)
    rw [e] at q1
    have := q1 [] rfl
    rw [List.append_nil] at this
    rw [this] at k
    exact .inl ⟨js.stop i H2 (x2.trans a2.in_) (by rw [hn]; omega), k D vs F2 H2 a2 hDH f2 h2 r2⟩
theorem et_yes : EvT K W env tYes (.ok true) := fun F0 H0 F H σ Q S k => k F H (Adv.refl S.ex)

/-! ### built-in defs -/
theorem cx_len : CrX K (fun xs H Q => ∃ p ys, xs = [.ref p] ∧ (SqL K H p ys ∨ SqT K H p ys) ∧ Q (.int ys.length) H) (fun (p : List α × Unit) => .ok (p.1.length : Int)) := fun F H x vs Q e r k => by
  obtain ⟨v, r1, rfl, ⟨a, ws, rfl, hl, hr⟩, h2⟩ := r
  cases (show r1 = [] from h2)
  refine ⟨a, ws, rfl, .inl (sq_ex e hl), ?_⟩
  rw [← hr.length, List.length_map]
  exact k _ F H (Adv.refl e) rfl
theorem cx_lenT {n : Nat} (hn : ∀ x : α, ∃ ds, toD x = .tup ds ∧ ds.length = n) : CrX K (fun xs H Q => ∃ p ys, xs = [.ref p] ∧ (SqL K H p ys ∨ SqT K H p ys) ∧ Q (.int ys.length) H) (fun (p : α × Unit) => .ok (n : Int)) := fun F H x vs Q e r k => by
  obtain ⟨v, r1, rfl, hv, h2⟩ := r
  obtain ⟨ds, e1, e2⟩ := hn x.1
  have hv : Rep K F (toD x.1) v := hv
  rw [e1] at hv
  obtain ⟨a, ws, rfl, hl, hr⟩ := hv
  cases (show r1 = [] from h2)
  refine ⟨a, ws, rfl, .inr (Evl.ex_t e hl), ?_⟩
  rw [← hr.length, e2]
  exact k _ F H (Adv.refl e) rfl
theorem ev_lenO {j : Nat} {xs : List α} (h : env[j]? = some (some (.ow (xs.map toD)))) : EvX K W env (tCB (fun xs H Q => ∃ p ys, xs = [V.ref p] ∧ (SqL K H p ys ∨ SqT K H p ys) ∧ Q (.int ys.length) H) (tCons (tVar j) tNil)) (.ok (xs.length : Int)) := fun F0 H0 F H σ Q S k => by
  obtain ⟨v, e, p, vs, rfl, h0, hf, hp, hr⟩ := S.slot j _ h
  refine ⟨_, e, p, vs, rfl, .inl (.inl (.inl hp)), ?_⟩
  rw [← hr.length, List.length_map]
  exact k _ F H (Adv.refl S.ex) rfl
theorem cx_abs : CrX K (fun xs H Q => ∃ i, xs = [.int i] ∧ Q (.int (if i < 0 then -i else i)) H) (fun (p : Int × Unit) => .ok (p.1.natAbs : Int)) := fun F H x vs Q e r k => by
  obtain ⟨v, r1, rfl, h1, h2⟩ := r
  cases (show r1 = [] from h2); cases (show v = V.int x.1 from h1)
  refine ⟨x.1, rfl, ?_⟩
  have q : (if x.1 < 0 then -x.1 else x.1) = (x.1.natAbs : Int) := by split <;> omega
  rw [q]
  exact k _ F H (Adv.refl e) rfl
theorem cx_max : CrX K (fun xs H Q => ∃ i j, xs = [.int i, .int j] ∧ Q (.int (if j > i then j else i)) H) (fun (p : Int × Int × Unit) => .ok (max p.1 p.2.1)) := fun F H x vs Q e r k => by
  obtain ⟨v, r1, rfl, h1, w, r2, rfl, h2, h3⟩ := r
  cases (show r2 = [] from h3); cases (show v = V.int x.1 from h1); cases (show w = V.int x.2.1 from h2)
  refine ⟨x.1, x.2.1, rfl, ?_⟩
  have q : (if x.2.1 > x.1 then x.2.1 else x.1) = max x.1 x.2.1 := by split <;> omega
  rw [q]
  exact k _ F H (Adv.refl e) rfl
theorem cx_min : CrX K (fun xs H Q => ∃ i j, xs = [.int i, .int j] ∧ Q (.int (if j < i then j else i)) H) (fun (p : Int × Int × Unit) => .ok (min p.1 p.2.1)) := fun F H x vs Q e r k => by
  obtain ⟨v, r1, rfl, h1, w, r2, rfl, h2, h3⟩ := r
  cases (show r2 = [] from h3); cases (show v = V.int x.1 from h1); cases (show w = V.int x.2.1 from h2)
  refine ⟨x.1, x.2.1, rfl, ?_⟩
  have q : (if x.2.1 < x.1 then x.2.1 else x.1) = min x.1 x.2.1 := by split <;> omega
  rw [q]
  exact k _ F H (Adv.refl e) rfl
theorem cx_int : CrX K (fun xs H Q => (∃ i, xs = [.int i] ∧ Q (.int i) H) ∨ ∃ k, xs = [.bl k] ∧ Q (.int (if k then 1 else 0)) H) (fun (p : Int × Unit) => .ok p.1) := fun F H x vs Q e r k => by
  obtain ⟨v, r1, rfl, h1, h2⟩ := r
  cases (show r1 = [] from h2); cases (show v = V.int x.1 from h1)
  exact .inl ⟨x.1, rfl, k _ F H (Adv.refl e) rfl⟩
theorem cx_intB : CrX K (fun xs H Q => (∃ i, xs = [.int i] ∧ Q (.int i) H) ∨ ∃ k, xs = [.bl k] ∧ Q (.int (if k then 1 else 0)) H) (fun (p : Bool × Unit) => .ok (if p.1 = true then (1 : Int) else 0)) := fun F H x vs Q e r k => by
  obtain ⟨v, r1, rfl, h1, h2⟩ := r
  cases (show r1 = [] from h2); cases (show v = V.bl x.1 from h1)
  exact .inr ⟨x.1, rfl, k _ F H (Adv.refl e) rfl⟩
/-- the greatest, the least of a list that is not empty -/
def lmax : List Int → Int
  | [] => 0
  | x :: r => r.foldl max x
def lmin : List Int → Int
  | [] => 0
  | x :: r => r.foldl min x
theorem foldl_max_ge (r : List Int) : ∀ x, x ≤ r.foldl max x ∧ ∀ y ∈ r, y ≤ r.foldl max x := by
  induction r with
  | nil => intro x; exact ⟨Int.le_refl _, fun y h => by cases h⟩
  | cons a r ih =>
    intro x
    obtain ⟨h1, h2⟩ := ih (max x a)
    refine ⟨by have : x ≤ max x a := Int.le_max_left ..; exact Int.le_trans this h1, fun y hy => ?_⟩
    rcases List.mem_cons.mp hy with rfl | hy
    · exact Int.le_trans (Int.le_max_right ..) h1
    · exact h2 y hy
theorem foldl_max_mem (r : List Int) : ∀ x, r.foldl max x = x ∨ r.foldl max x ∈ r := by
  induction r with
  | nil => intro x; exact .inl rfl
  | cons a r ih =>
    intro x
    rcases ih (max x a) with h | h
    · show List.foldl max (max x a) r = x ∨ List.foldl max (max x a) r ∈ _
      rw [h]
      by_cases c : x ≤ a
      · rw [Int.max_eq_right c]; exact .inr List.mem_cons_self
      · rw [Int.max_eq_left (by omega)]; exact .inl rfl
    · exact .inr (List.mem_cons_of_mem _ h)
theorem foldl_min_le (r : List Int) : ∀ x, r.foldl min x ≤ x ∧ ∀ y ∈ r, r.foldl min x ≤ y := by
  induction r with
  | nil => intro x; exact ⟨Int.le_refl _, fun y h => by cases h⟩
  | cons a r ih =>
    intro x
    obtain ⟨h1, h2⟩ := ih (min x a)
    refine ⟨by have : min x a ≤ x := Int.min_le_left ..; exact Int.le_trans h1 this, fun y hy => ?_⟩
    rcases List.mem_cons.mp hy with rfl | hy
    · exact Int.le_trans h1 (Int.min_le_right ..)
    · exact h2 y hy
theorem foldl_min_mem (r : List Int) : ∀ x, r.foldl min x = x ∨ r.foldl min x ∈ r := by
  induction r with
  | nil => intro x; exact .inl rfl
  | cons a r ih =>
    intro x
    rcases ih (min x a) with h | h
    · show List.foldl min (min x a) r = x ∨ List.foldl min (min x a) r ∈ _
      rw [h]
      by_cases c : x ≤ a
      · rw [Int.min_eq_left c]; exact .inl rfl
      · rw [Int.min_eq_right (by omega)]; exact .inr List.mem_cons_self
    · exact .inr (List.mem_cons_of_mem _ h)
theorem lmax_spec {ns : List Int} {m : Int} (h1 : m ∈ ns) (h2 : ∀ y ∈ ns, y ≤ m) : m = lmax ns := by
  cases ns with
  | nil => cases h1
  | cons x r =>
    show m = r.foldl max x
    obtain ⟨g1, g2⟩ := foldl_max_ge r x
    have a : m ≤ r.foldl max x := by
      rcases List.mem_cons.mp h1 with rfl | h
      · exact g1
      · exact g2 m h
    have b : r.foldl max x ≤ m := by
      rcases foldl_max_mem r x with e | e
      · rw [e]; exact h2 x List.mem_cons_self
      · exact h2 _ (List.mem_cons_of_mem _ e)
    omega
theorem lmin_spec {ns : List Int} {m : Int} (h1 : m ∈ ns) (h2 : ∀ y ∈ ns, m ≤ y) : m = lmin ns := by
  cases ns with
  | nil => cases h1
  | cons x r =>
    show m = r.foldl min x
    obtain ⟨g1, g2⟩ := foldl_min_le r x
    have a : r.foldl min x ≤ m := by
      rcases List.mem_cons.mp h1 with rfl | h
      · exact g1
      · exact g2 m h
    have b : m ≤ r.foldl min x := by
      rcases foldl_min_mem r x with e | e
      · rw [e]; exact h2 x List.mem_cons_self
      · exact h2 _ (List.mem_cons_of_mem _ e)
    omega
theorem cx_lmax : CrX K (rMax K) (fun (p : List Int × Unit) => .need (0 < p.1.length) (.ok (lmax p.1))) := fun F H x vs Q e r k => by
  obtain ⟨v, r1, rfl, ⟨a, ws, rfl, hl, hr⟩, h2⟩ := r
  cases (show r1 = [] from h2)
  have e2 : ws = x.1.map V.int := Reps.ints hr
  subst e2
  by_cases c : 0 < x.1.length
  · dsimp only at k
    rw [Res.need_pos c] at k
    refine ⟨a, x.1, rfl, sq_ex e hl, c, fun m h1 h2 => ?_⟩
    rw [lmax_spec h1 h2]
    exact k _ F H (Adv.refl e) rfl
  · dsimp only at k; rw [Res.need_neg c] at k; exact k.elim
theorem cx_lmin : CrX K (rMin K) (fun (p : List Int × Unit) => .need (0 < p.1.length) (.ok (lmin p.1))) := fun F H x vs Q e r k => by
  obtain ⟨v, r1, rfl, ⟨a, ws, rfl, hl, hr⟩, h2⟩ := r
  cases (show r1 = [] from h2)
  have e2 : ws = x.1.map V.int := Reps.ints hr
  subst e2
  by_cases c : 0 < x.1.length
  · dsimp only at k
    rw [Res.need_pos c] at k
    refine ⟨a, x.1, rfl, sq_ex e hl, c, fun m h1 h2 => ?_⟩
    rw [lmin_spec h1 h2]
    exact k _ F H (Adv.refl e) rfl
  · dsimp only at k; rw [Res.need_neg c] at k; exact k.elim
theorem cx_sum : CrX K (rSum K) (fun (p : List Int × Unit) => .ok p.1.sum) := fun F H x vs Q e r k => by
  obtain ⟨v, r1, rfl, ⟨a, ws, rfl, hl, hr⟩, h2⟩ := r
  cases (show r1 = [] from h2)
  have e2 : ws = x.1.map V.int := Reps.ints hr
  subst e2
  exact ⟨a, x.1, rfl, sq_ex e hl, k _ F H (Adv.refl e) rfl⟩
theorem cx_all : CrX K (rAll K) (fun (p : List Bool × Unit) => .ok (p.1.all id)) := fun F H x vs Q e r k => by
  obtain ⟨v, r1, rfl, ⟨a, ws, rfl, hl, hr⟩, h2⟩ := r
  cases (show r1 = [] from h2)
  have e2 : ws = x.1.map V.bl := Reps.bls hr
  subst e2
  exact ⟨a, x.1, rfl, sq_ex e hl, k _ F H (Adv.refl e) rfl⟩
theorem cx_any : CrX K (rAny K) (fun (p : List Bool × Unit) => .ok (p.1.any id)) := fun F H x vs Q e r k => by
  obtain ⟨v, r1, rfl, ⟨a, ws, rfl, hl, hr⟩, h2⟩ := r
  cases (show r1 = [] from h2)
  have e2 : ws = x.1.map V.bl := Reps.bls hr
  subst e2
  exact ⟨a, x.1, rfl, sq_ex e hl, k _ F H (Adv.refl e) rfl⟩
/-- list(xs): a new list -/
theorem en_list {m : Res (List α)} (h : EvX K W env te m) : EvN K W env (tCB (fun xs H Q => ∃ p ys, xs = [V.ref p] ∧ (SqL K H p ys ∨ SqT K H p ys) ∧ ∀ l, H l = none → Q (.ref l) (upd H l (.lst ys))) (tCons te tNil)) m := fun F0 H0 F H σ Q S k => by
  refine h F0 H0 F H σ _ S ?_
  cases m with
  | ok xs =>
    intro v F1 H1 a r
    obtain ⟨p, vs, rfl, h1, h2⟩ := r
    exact ⟨p, vs, rfl, .inl (sq_ex a.in_ h1), fun l hl => k l vs F1 _ (a.trans (Adv.newO a.in_ hl)) (Evl.fresh_back a.h hl) (none_of_ex a.in_ hl) upd_same h2⟩
  | exc c => exact k
  | stuck => exact k.elim
theorem en_listT {m : Res (Tu α)} (h : EvX K W env te m) : EvN K W env (tCB (fun xs H Q => ∃ p ys, xs = [V.ref p] ∧ (SqL K H p ys ∨ SqT K H p ys) ∧ ∀ l, H l = none → Q (.ref l) (upd H l (.lst ys))) (tCons te tNil)) (m.bind fun x => .ok x.xs) := fun F0 H0 F H σ Q S k => by
  refine h F0 H0 F H σ _ S ?_
  cases m with
  | ok xs =>
    intro v F1 H1 a r
    obtain ⟨p, vs, rfl, h1, h2⟩ := r
    exact ⟨p, vs, rfl, .inr (Evl.ex_t a.in_ h1), fun l hl => k l vs F1 _ (a.trans (Adv.newO a.in_ hl)) (Evl.fresh_back a.h hl) (none_of_ex a.in_ hl) upd_same h2⟩
  | exc c => exact k
  | stuck => exact k.elim
/-- tuple(xs) of a list -/
theorem ev_tupleL {m : Res (List α)} (h : EvX K W env te m) : EvX K W env (tCB (fun xs H Q => ∃ p ys, xs = [V.ref p] ∧ ((SqL K H p ys ∧ ∀ l, H l = none → Q (.ref l) (upd H l (.tup ys))) ∨ (SqT K H p ys ∧ Q (.ref p) H))) (tCons te tNil)) (m.bind fun x => .ok (Tu.mk x)) := fun F0 H0 F H σ Q S k => by
  refine h F0 H0 F H σ _ S ?_
  cases m with
  | ok xs =>
    intro v F1 H1 a r
    obtain ⟨p, vs, rfl, h1, h2⟩ := r
    refine ⟨p, vs, rfl, .inl ⟨sq_ex a.in_ h1, fun l hl => ?_⟩⟩
    have a2 : Adv F1 H1 (upd F1 l (.tup vs)) (upd H1 l (.tup vs)) := Adv.new a.in_ hl
    exact k _ _ _ (a.trans a2) ⟨l, vs, rfl, .inl (.inl upd_same), Reps.mono a2.f _ _ h2⟩
  | exc c => exact k
  | stuck => exact k.elim
/-- xs[lo:hi] -/
theorem en_slice {m : Res (List α)} {lo hi : Option Int} {tl th : TO} (h : EvX K W env te m) (hl : ∀ σ H Q, Q lo H → tl σ H Q) (hh : ∀ σ H Q, Q hi H → th σ H Q) :
    EvN K W env (tSl (rSlL K) te tl th) (m.bind fun xs => .ok ((xs.drop (HT.sIx xs.length 0 lo)).take (HT.sIx xs.length xs.length hi - HT.sIx xs.length 0 lo))) := fun F0 H0 F H σ Q S k => by
  refine h F0 H0 F H σ _ S ?_
  cases m with
  | ok xs =>
    intro v F1 H1 a r
    obtain ⟨p, vs, rfl, h1, h2⟩ := r
    refine hl _ _ _ (hh _ _ _ ⟨p, vs, rfl, sq_ex a.in_ h1, fun l hl => ?_⟩)
    refine k l _ F1 _ (a.trans (Adv.newO a.in_ hl)) (Evl.fresh_back a.h hl) (none_of_ex a.in_ hl) upd_same ?_
    have e : xs.length = vs.length := by have := h2.length; rwa [List.length_map] at this
    unfold cutV
    rw [List.map_take, List.map_drop, e]
    exact Reps.take _ (Reps.drop _ h2)
  | exc c => exact k
  | stuck => exact k.elim
theorem to_none : ∀ (σ : L2.St) (H : Hp) (Q : Option Int → Hp → Prop), Q none H → tNoPart σ H Q := fun _ _ _ q => q
theorem to_int {i : Int} : ∀ (σ : L2.St) (H : Hp) (Q : Option Int → Hp → Prop), Q (some i) H → tPart (tC (.int i)) σ H Q := fun _ _ _ q => ⟨i, rfl, q⟩

/-! ### isinstance of data -/
def tyName : D → String
  | .non => "NoneType" | .bl _ => "bool" | .int _ => "int" | .str _ => "str" | .ty _ => "type" | .tup _ => "tuple" | .lst _ => "list" | .obj _ _ _ => "object" | .ro _ => "list" | .dct _ _ => "dict"
def D.plain : D → Bool
  | .ty _ => false | .obj _ _ _ => false | .ro _ => false | .dct _ _ => false | _ => true
theorem tyx_of {x : D} {v : V} (h : Rep K F x v) (e : Ex F H) (p : x.plain = true) : TyX K H v (.type (tyName x)) := by
  cases x with
  | non => rw [show v = V.non from h]; exact .base .non
  | bl b => rw [show v = V.bl b from h]; exact .base (.bl b)
  | int b => rw [show v = V.int b from h]; exact .base (.int b)
  | str b => rw [show v = V.str b from h]; exact .base (.str b)
  | ty b => cases p
  | obj c ks ds => cases p
  | ro ds => cases p
  | dct ks ds => cases p
  | lst ds =>
    obtain ⟨a, vs, rfl, hl, _⟩ := h
    rcases sq_ex e hl with (q | ⟨o, q⟩) | ⟨o, its, n, q1, q2, _⟩
    · exact .base (.lst q)
    · exact .base (.frz q)
    · exact .kList q1 q2
  | tup ds =>
    obtain ⟨a, vs, rfl, hl, _⟩ := h
    rcases Evl.ex_t e hl with (q | ⟨o, q⟩) | ⟨o, its, n, q1, q2, _⟩
    · exact .base (.tup q)
    · exact .fTuple q
    · exact .kTuple q1 q2
/-- isinstance(x, T), T a built-in class, x any data but objects -/
def isI (n : String) (x : D) : Bool := tyName x == n || (n == "int" && tyName x == "bool")
def isiOk (n : String) : Prop := kitB "NoneType" n = some ("NoneType" == n) ∧ kitB "bool" n = some ("bool" == n || n == "int") ∧ kitB "int" n = some ("int" == n) ∧ kitB "str" n = some ("str" == n) ∧ kitB "tuple" n = some ("tuple" == n) ∧ kitB "list" n = some ("list" == n)
theorem ev_isi {n : String} {m : Res α} (hn : isiOk n) (h : EvX K W env te m) : EvX K W env (tCB (rIsi K) (tCons te (tCons (tC (.ty n)) tNil))) (m.bind fun x => .need ((toD x).plain = true) (.ok (isI n (toD x)))) := fun F0 H0 F H σ Q S k => by
  refine h F0 H0 F H σ _ S (KE.cut S.ex k fun x v F1 H1 e1 a1 r1 k1 => ?_)
  by_cases c : (toD x).plain = true
  · rw [Res.need_pos c] at k1
    refine ⟨v, .ty n, _, _, isI n (toD x), rfl, .ty n, tyx_of r1 a1.in_ c, ?_, k1 _ F1 H1 (Adv.refl a1.in_) rfl⟩
    refine kit_ty ?_
    obtain ⟨h1, h2, h3, h4, h5, h6⟩ := hn
    revert c
    generalize toD x = y
    intro c
    cases y with
    | non => rw [show tyName .non = "NoneType" from rfl, h1]; simp [isI, tyName]
    | bl b => rw [show tyName (.bl b) = "bool" from rfl, h2]; simp [isI, tyName]
    | int b => rw [show tyName (.int b) = "int" from rfl, h3]; simp [isI, tyName]
    | str b => rw [show tyName (.str b) = "str" from rfl, h4]; simp [isI, tyName]
    | tup b => rw [show tyName (.tup b) = "tuple" from rfl, h5]; simp [isI, tyName]
    | lst b => rw [show tyName (.lst b) = "list" from rfl, h6]; simp [isI, tyName]
    | ty b => cases c
    | obj a b d => cases c
    | ro a => cases c
    | dct a b => cases c
  · rw [Res.need_neg c] at k1; exact k1.elim
theorem isi_int : isiOk "int" := by unfold isiOk; decide +kernel
theorem isi_bool : isiOk "bool" := by unfold isiOk; decide +kernel
theorem isi_list : isiOk "list" := by unfold isiOk; decide +kernel
theorem isi_tuple : isiOk "tuple" := by unfold isiOk; decide +kernel
theorem isi_str : isiOk "str" := by unfold isiOk; decide +kernel

/-! ### errors -/
/-- what a body of a try gives: it falls through, or it hands back -/
inductive Fall (S τ : Type) where
  | go (s : S) | back (x : τ)
instance {S τ : Type} [ToD τ] : ToD (Fall S τ) := ⟨fun x => match x with | .go _ => .obj Str.empty [] [.non] | .back x => ToD.d x⟩
theorem no_go {S : Type} {s : S} {v : V} (h : Rep K F (toD (Fall.go s : Fall S τ)) v) : False := by
  obtain ⟨a, dx, vs, _, _, h3, h4⟩ := h
  obtain ⟨w, r, e, _⟩ := h4
  subst e
  simp at h3
/-- the classes of the errors: which they are, which is under which -/
structure Cls (K : PySem.W.Frag) (cs : List Str) (sub : Str → Str → Bool) : Prop where
  exc : ∀ c ∈ cs, ExcC K (He.ga K c)
  exm : ∀ c ∈ cs, ∀ d ∈ cs, PySem.W.exmOne K (.ref (He.ga K c)) (.ref (He.ga K d)) = some (sub c d)
  kit : ∀ c ∈ cs, ∀ d ∈ cs, PySem.W.kitOne K (.ref (He.ga K c)) (.ref (He.ga K d)) = some (sub c d)
  kiv : ∀ c ∈ cs, PySem.W.kitOne K (.ref (He.ga K c)) (.type "ValueError") = some true
/-- the outcome of: try body, except X -/
def tryR {S τ : Type} (known : Str → Bool) (sub : Str → Bool) (m : Res (Fall S τ)) (rest : S → Res τ) (hd : Str → Res τ) : Res τ := match m with
  | .ok (.go s) => rest s
  | .ok (.back x) => .ok x
  | .exc c => if known c = true then (if sub c = true then hd c else .exc c) else .stuck
  | .stuck => .stuck
theorem Sl.setNone {K : PySem.W.Frag} {F0 H0 F H : Hp} {σ : L2.St} {env : En} (S : Sl K F0 H0 F H σ env) (i : Nat) : Sl K F0 H0 F H (σ.set i none) (env.set i none) := by
  refine ⟨S.adv, fun j sk e => ?_, fun j k xs ys p hjk e1 e2 o1 o2 h1 => ?_, by rw [List.length_set, List.length_set]; exact S.len⟩
  · rcases set_get e with ⟨_, z⟩ | ⟨z, e⟩
    · cases z
    · obtain ⟨w, q1, q2⟩ := S.slot j sk e
      exact ⟨w, by rw [List.getElem?_set_ne z]; exact q1, q2⟩
  · rcases set_get e1 with ⟨_, z⟩ | ⟨z1, e1⟩
    · cases z
    rcases set_get e2 with ⟨_, z⟩ | ⟨z2, e2⟩
    · cases z
    rw [List.getElem?_set_ne z1] at h1
    rw [List.getElem?_set_ne z2]
    exact S.dis j k xs ys p hjk e1 e2 o1 o2 h1
/-- the body falls through by s (envS s, rest s), or hands back; the suite hands back, or falls through to mr -/
theorem blk_tryAs {S : Type} {cs : List Str} {sub : Str → Str → Bool} {x : Str} {i : Nat} {tb : WX → TS} {ts : Addr → Value → Option Addr → TS} {envS : S → En} {m : Res (Fall S τ)} {rest : S → Res τ} {hd : Str → Res τ}
    (L : Lk K W F0 H0 rt PT KP) (hT : PT env) (C : Cls K cs sub) (hx : x ∈ cs)
    (hb : ∀ (W' : WX) (KP' : Res (Fall S τ) → Prop), Lk K W' F0 H0 rt (fun e => EnLe e env) KP' → (∀ s, Blk K F0 H0 KP' Z.nx (envS s) (.ok (.go s))) → Blk K F0 H0 KP' (tb W' Z) env m)
    (hs : ∀ (c : Str) (a : Addr) (nx bk ct : L2.St → Hp → Prop), c ∈ cs → sub c x = true → (∀ env' m', Blk K F0 H0 KP Z.nx (env'.set i none) m' → Blk K F0 H0 KP nx env' m') →
      Blk K F0 H0 KP (ts a (.ref (He.ga K c)) none { nx := nx, rt := rt, bk := bk, ct := ct }) (env.set i (some (.raw (.ref a)))) (hd c))
    (hr : ∀ s, Blk K F0 H0 KP Z.nx (envS s) (rest s)) (hZ : Z.rt = rt := by rfl) :
    Blk K F0 H0 KP (tb (wAs K (.ref (He.ga K x)) i ts W Z) Z) env (tryR (fun c => decide (c ∈ cs)) (fun c => sub c x) m rest hd) := fun F H σ S1 h => by
  subst hZ
  refine hb (wAs K (.ref (He.ga K x)) i ts W Z) (fun r => KP (tryR (fun c => decide (c ∈ cs)) (fun c => sub c x) r rest hd)) ⟨fun y h v F H a r => ?_, fun c F H σ env' h p S' => ?_, L.no⟩ (fun s F H σ S h => hr s F H σ S h) F H σ S1 h
  · cases y with
    | go s => exact (no_go r).elim
    | back y => exact L.ok y h v F H a r
  · have h : KP (if decide (c ∈ cs) = true then (if sub c x = true then hd c else .exc c) else .stuck) := h
    by_cases hc : c ∈ cs
    · rw [if_pos (decide_eq_true hc)] at h
      have S2 := S'.weak p
      refine ⟨sub c x, C.exm c hc x hx, fun q a ha => ?_, fun q => ?_⟩
      · rw [if_pos q] at h
        refine hs c a _ _ _ hc q (fun env' m' B F H σ S h => B F H _ (S.setNone i) h) F H _ ?_ h
        refine ⟨S2.adv, fun j sk e => ?_, fun j k xs ys p hjk e1 e2 o1 o2 h1 => ?_, by rw [List.length_set, List.length_set]; exact S2.len⟩
        · rcases set_get e with ⟨rfl, z⟩ | ⟨z, e⟩
          · cases z
            have hi : i < env.length := by
              have h := (List.getElem?_eq_some_iff.mp e).1
              rwa [List.length_set] at h
            exact ⟨_, by rw [List.getElem?_set_self (by rw [S2.len]; exact hi)], rfl⟩
          · obtain ⟨w, q1, q2⟩ := S2.slot j sk e
            exact ⟨w, by rw [List.getElem?_set_ne z]; exact q1, q2⟩
        · rcases set_get e1 with ⟨_, z⟩ | ⟨z1, e1⟩
          · cases z; cases o1
          rcases set_get e2 with ⟨_, z⟩ | ⟨z2, e2⟩
          · cases z; cases o2
          rw [List.getElem?_set_ne z1] at h1
          rw [List.getElem?_set_ne z2]
          exact S2.dis j k xs ys p hjk e1 e2 o1 o2 h1
      · rw [if_neg (by rw [q]; exact Bool.false_ne_true)] at h
        exact L.exc c F H σ env h hT S2
    · rw [if_neg (by simpa using hc)] at h
      exact (L.no h).elim
/-- isinstance(e, C), isinstance(e, (C1, C2)) in the suite -/
def rIsE2 (K : PySem.W.Frag) (a : Addr) (cls : Value) (d : Option Addr) : List V → Hp → VK → Prop := fun xs H Q => ∃ (Dc : Addr) (c : V) (cv : Value) (b : Bool), cls = .ref Dc ∧ d = none ∧ ExcC K Dc ∧ xs = [.ref a, c] ∧ (∀ u, RelV c u → u = cv) ∧ PySem.W.kitOne K (.ref Dc) cv = some b ∧ Q (.bl b) H
theorem call_isE2 {X : Cx} {a : Addr} {cls : Value} {d : Option Addr} {oe : Obj} {pn : List (Addr × Obj)} (hz : Zc cls d oe) (hf : ∃ vs, oe.data = .fields vs) : CallR (X.suite a ((a, oe) :: pn)) (.builtin "isinstance") (rIsE2 X.K a cls d) := by
  intro pins s σ H xs us Q I r h
  obtain ⟨Dc, c, cv, b, rfl, rfl, C, e, k, q, hQ⟩ := h
  exact call_isE (X := X) C hz hf pins s σ H xs us Q I r ⟨c, cv, b, e, k, q, hQ⟩
def rIsET (K : PySem.W.Frag) (a : Addr) (cls : Value) (d : Option Addr) : List V → Hp → VK → Prop := fun xs H Q => ∃ (Dc tp : Addr) (cl : List V) (us : List Value) (b : Bool), cls = .ref Dc ∧ d = none ∧ ExcC K Dc ∧ xs = [.ref a, .ref tp] ∧ H tp = some (.tup cl) ∧ Paired ClsV cl us ∧ PySem.W.kitAny K (.ref Dc) us = some b ∧ Q (.bl b) H
theorem call_isET {X : Cx} {a : Addr} {cls : Value} {d : Option Addr} {oe : Obj} {pn : List (Addr × Obj)} (hz : Zc cls d oe) (hf : ∃ vs, oe.data = .fields vs) : CallR (X.suite a ((a, oe) :: pn)) (.builtin "isinstance") (rIsET X.K a cls d) := by
  intro pins s σ H xs us Q I r h
  obtain ⟨Dc, tp, cl, ws, b, rfl, rfl, C, rfl, hT, k, e, q⟩ := h
  obtain ⟨u1, u2, rfl, r1, r2⟩ := vals2 r
  cases (show u2 = Value.ref tp from r2)
  cases (show u1 = Value.ref a from r1)
  obtain ⟨_, its, rv, o, h1, h2, n, h3⟩ := (show ObjOk X.prog X.w H s.heap tp (.tup cl) from I.hok tp _ hT)
  have e3 := ClsV.all k rv
  subst e3
  obtain ⟨oc, od, dt, sl⟩ := o
  simp only at h2 h3
  subst h2 h3
  obtain ⟨hget, _⟩ := I.pin (a, oe) (List.mem_append.mpr (.inl List.mem_cons_self))
  obtain ⟨vs, hv⟩ := hf
  have J : PySem.W.InstAt s.heap a oe Dc none := by
    obtain ⟨oc, od, oda, osl⟩ := oe
    obtain ⟨h1, h2⟩ := hz
    dsimp only at h1 h2 hv
    subst h1 h2 hv
    exact ⟨hget, rfl, rfl, trivial⟩
  exact PySem.W.kia_tup (PySem.W.handS_kitx_exc C.hg C.hk C.hs C.hd C.ha C.hn C.ht C.hm) I.kIn J h1 e (fun z => nomatch z) fun tk => ⟨.bl b, H, I.tok tk, rfl, q⟩
theorem ev_isE {cs : List Str} {sub : Str → Str → Bool} {c x : Str} {i : Nat} {a : Addr} (C : Cls K cs sub) (hc : c ∈ cs) (hx : x ∈ cs) (h : env[i]? = some (some (.raw (.ref a)))) :
    EvX K W env (tCB (rIsE2 K a (.ref (He.ga K c)) none) (tCons (tVar i) (tCons (tC (.ref (He.ga K x))) tNil))) (.ok (sub c x)) := fun F0 H0 F H σ Q S k => by
  obtain ⟨v, e, q⟩ := S.slot i _ h
  cases (show v = V.ref a from q)
  exact ⟨_, e, He.ga K c, .ref (He.ga K x), .ref (He.ga K x), sub c x, rfl, rfl, C.exc c hc, rfl, fun u r => r, C.kit c hc x hx, k _ F H (Adv.refl S.ex) rfl⟩
theorem ev_isEV {cs : List Str} {sub : Str → Str → Bool} {c : Str} {i : Nat} {a : Addr} (C : Cls K cs sub) (hc : c ∈ cs) (h : env[i]? = some (some (.raw (.ref a)))) :
    EvX K W env (tCB (rIsE2 K a (.ref (He.ga K c)) none) (tCons (tVar i) (tCons (tC (.ty "ValueError")) tNil))) (.ok true) := fun F0 H0 F H σ Q S k => by
  obtain ⟨v, e, q⟩ := S.slot i _ h
  cases (show v = V.ref a from q)
  exact ⟨_, e, He.ga K c, .ty "ValueError", .type "ValueError", true, rfl, rfl, C.exc c hc, rfl, fun u r => r, C.kiv c hc, k _ F H (Adv.refl S.ex) rfl⟩
theorem kit_any {cs : List Str} {sub : Str → Str → Bool} {c : Str} (C : Cls K cs sub) (hc : c ∈ cs) : ∀ {xs : List Str}, (∀ x ∈ xs, x ∈ cs) → PySem.W.kitAny K (.ref (He.ga K c)) (xs.map fun x => .ref (He.ga K x)) = some (xs.any (sub c))
  | [], _ => rfl
  | x :: xs, h => by
    show (match PySem.W.kitOne K (.ref (He.ga K c)) (.ref (He.ga K x)) with | some true => some true | some false => PySem.W.kitAny K (.ref (He.ga K c)) (xs.map fun x => .ref (He.ga K x)) | none => none) = _
    rw [C.kit c hc x (h x List.mem_cons_self), kit_any C hc fun y hy => h y (List.mem_cons_of_mem _ hy)]
    cases q : sub c x <;> simp [q]
theorem ev_isET2 {cs : List Str} {sub : Str → Str → Bool} {c x y : Str} {i : Nat} {a : Addr} (C : Cls K cs sub) (hc : c ∈ cs) (hx : x ∈ cs) (hy : y ∈ cs) (h : env[i]? = some (some (.raw (.ref a)))) :
    EvX K W env (tCB (rIsET K a (.ref (He.ga K c)) none) (tCons (tVar i) (tCons (tTup (tCons (tC (.ref (He.ga K x))) (tCons (tC (.ref (He.ga K y))) tNil))) tNil))) (.ok (sub c x || sub c y)) := fun F0 H0 F H σ Q S k => by
  obtain ⟨v, e, q⟩ := S.slot i _ h
  cases (show v = V.ref a from q)
  refine ⟨_, e, by show 2 ≤ sizeLine; decide, fun p hp => ?_⟩
  have a2 : Adv F H (upd F p (.tup [.ref (He.ga K x), .ref (He.ga K y)])) (upd H p (.tup [.ref (He.ga K x), .ref (He.ga K y)])) := Adv.new S.ex hp
  refine ⟨He.ga K c, p, [.ref (He.ga K x), .ref (He.ga K y)], [.ref (He.ga K x), .ref (He.ga K y)], sub c x || sub c y, rfl, rfl, C.exc c hc, rfl, upd_same, .cons (.own _) (.cons (.own _) .nil), ?_, k _ _ _ a2 rfl⟩
  have := kit_any C hc (xs := [x, y]) (by simp [hx, hy])
  simpa using this
end

/-! ### a def -/
def enStart (N : List Str) (ds : List D) : En := ds.map (fun x => some (.im x)) ++ List.replicate (N.length - ds.length) none
theorem sl_start {K : PySem.W.Frag} {F H : Hp} {N : List Str} {ds : List D} {vs : List V} (e : Ex F H) (r : Reps K F ds vs) : Sl K F H F H (L2.start N vs) (enStart N ds) := by
  have hl := r.length
  refine ⟨Adv.refl e, fun i sk q => ?_, fun i j xs ys p _ q _ oo _ _ => ?_, by simp [L2.start, enStart, hl]⟩
  · unfold enStart at q
    by_cases c : i < ds.length
    · rw [List.getElem?_append_left (by simpa using c), List.getElem?_map, List.getElem?_eq_getElem c] at q
      cases q
      obtain ⟨v, h1, h2⟩ := r.get (List.getElem?_eq_getElem c)
      refine ⟨v, ?_, h2⟩
      unfold L2.start
      rw [List.getElem?_append_left (by rw [List.length_map]; omega), List.getElem?_map, h1]; rfl
    · rw [List.getElem?_append_right (by simpa using c), List.getElem?_replicate] at q
      split at q <;> cases q
  · unfold enStart at q
    by_cases c : i < ds.length
    · rw [List.getElem?_append_left (by simpa using c), List.getElem?_map, List.getElem?_eq_getElem c] at q
      cases q; cases oo
    · rw [List.getElem?_append_right (by simpa using c), List.getElem?_replicate] at q
      split at q <;> cases q
section
variable {P : Program} {w : World} {K : PySem.W.Frag} {mg : Str → Option Value} {base : Heap} {x qual : Str} {params : Arguments} {body : List Stmt} {scope : Scope} {dvs : List V} {kws : List (Str × V)} {f : Addr} {fd : FuncData}
theorem fn_ok {N ps : List Str} {k : Nat} {β τ : Type} [ToDs β] [ToD τ] {fM : β → Res τ} (F : FunD K x qual params body scope dvs kws f fd) (S : FnScope N ps scope) (hl : ∀ y : β, (ToDs.ds y).length = ps.length)
    (hbody : ∀ (cdv : Value) (A : Around) (outer : List Env) (s : Shared) (H : Hp) (E : XK), Room k (A.deeper (PyProof.Rows.envOfC qual scope s.heap.objs.size f cdv)) →
      ∃ t, PSs (cxOf (L2.CX P w) P w K mg base N qual scope f cdv A outer s H E) body t ∧
        ∀ (y : β) (F0 H0 : Hp) (Q : VK) (KP : Res τ → Prop), Lk K (fun cls d _ H => E cls d H) F0 H0 Q (fun _ => True) KP → Blk K F0 H0 KP (t { nx := fun _ H' => Q .non H', rt := Q }) (enStart N (ToDs.ds y)) (fM y)) :
    FnOk P w K mg base (L2.CX P w) (k + 1) f fd ps (spM K fM) := by
  refine F.ok S (fun vs H Q E h => ?_) (fun cdv A outer s H vs Q E hr h => ?_)
  · obtain ⟨F, y, _, r, _⟩ := h
    rw [← r.length]; exact hl y
  · obtain ⟨t, h1, h2⟩ := hbody cdv A outer s H E hr
    refine ⟨t, h1, ?_⟩
    obtain ⟨F, y, e, r, q⟩ := h
    refine h2 y F H Q (fun r => KE K (fun cls d _ H => E cls d H) F H [] Q r) ⟨fun z h v F' H' a r => h v F' H' a r, fun c F' H' σ env h _ S' => h F' H' S'.adv, fun z => z⟩ F H _ (sl_start e r) q
end
end Mi
set_option maxHeartbeats 1000000
namespace Mi
open PySem PySem.Spec L2
open Evl (Ex)
abbrev W0 (E : XK) : WX := fun cls d _ H => E cls d H
theorem need_mild {α : Type} {p : Prop} {x : α} {c : Str} (h : Res.need p (.ok x) = .exc c) : False := by
  by_cases q : p
  · rw [Res.need_pos q] at h; cases h
  · rw [Res.need_neg q] at h; cases h
/-! what a value of any kind is taken for -/
def D.asInt : D → Res Int
  | .int i => .ok i
  | _ => .stuck
def D.asBool : D → Res Bool
  | .bl i => .ok i
  | _ => .stuck
def D.asStr : D → Res Str
  | .str i => .ok i
  | _ => .stuck
def D.asList : D → Res (List D)
  | .lst i => .ok i
  | _ => .stuck
def D.asTu : D → Res (Tu D)
  | .tup i => .ok ⟨i⟩
  | _ => .stuck
def intsOf : List D → Res (List Int)
  | [] => .ok []
  | .int i :: r => (intsOf r).bind fun s => .ok (i :: s)
  | _ :: _ => .stuck
def D.asInts : D → Res (List Int)
  | .lst i => intsOf i
  | _ => .stuck
theorem asInt_ok : ∀ (x : D) (y : Int), x.asInt = .ok y → toD y = x
  | .int i, y, h => by cases h; rfl
theorem asInt_x (x : D) (c : Str) : x.asInt ≠ .exc c := by cases x <;> intro h <;> cases h
theorem asBool_ok : ∀ (x : D) (y : Bool), x.asBool = .ok y → toD y = x
  | .bl i, y, h => by cases h; rfl
theorem asBool_x (x : D) (c : Str) : x.asBool ≠ .exc c := by cases x <;> intro h <;> cases h
theorem asStr_ok : ∀ (x : D) (y : Str), x.asStr = .ok y → toD y = x
  | .str i, y, h => by cases h; rfl
theorem asStr_x (x : D) (c : Str) : x.asStr ≠ .exc c := by cases x <;> intro h <;> cases h
theorem asList_ok : ∀ (x : D) (y : List D), x.asList = .ok y → toD y = x
  | .lst i, y, h => by cases h; show D.lst (i.map fun x => x) = _; rw [List.map_id']
theorem asList_x (x : D) (c : Str) : x.asList ≠ .exc c := by cases x <;> intro h <;> cases h
theorem asTu_ok : ∀ (x : D) (y : Tu D), x.asTu = .ok y → toD y = x
  | .tup i, y, h => by cases h; show D.tup (i.map fun x => x) = _; rw [List.map_id']
theorem asTu_x (x : D) (c : Str) : x.asTu ≠ .exc c := by cases x <;> intro h <;> cases h
theorem intsOf_ok : ∀ (x : List D) (y : List Int), intsOf x = .ok y → y.map D.int = x
  | [], y, h => by cases h; rfl
  | .int i :: r, y, h => by
    have h : (intsOf r).bind (fun s => .ok (i :: s)) = .ok y := h
    cases e : intsOf r with
    | ok z => rw [e] at h; cases h; rw [List.map_cons, intsOf_ok r z e]
    | exc c => rw [e] at h; cases h
    | stuck => rw [e] at h; cases h
theorem intsOf_x : ∀ (x : List D) (c : Str), intsOf x ≠ .exc c
  | [], c, h => by cases h
  | .int i :: r, c, h => by
    have h : (intsOf r).bind (fun s => .ok (i :: s)) = .exc c := h
    cases e : intsOf r with
    | ok z => rw [e] at h; cases h
    | exc c => exact intsOf_x r c e
    | stuck => rw [e] at h; cases h
  | .non :: _, c, h => by cases h
  | .bl _ :: _, c, h => by cases h
  | .str _ :: _, c, h => by cases h
  | .ty _ :: _, c, h => by cases h
  | .tup _ :: _, c, h => by cases h
  | .lst _ :: _, c, h => by cases h
  | .obj _ _ _ :: _, c, h => by cases h
  | .ro _ :: _, c, h => by cases h
  | .dct _ _ :: _, c, h => by cases h
theorem asInts_ok : ∀ (x : D) (y : List Int), x.asInts = .ok y → toD y = x
  | .lst i, y, h => congrArg D.lst (intsOf_ok i y h)
theorem asInts_x : ∀ (x : D) (c : Str), x.asInts ≠ .exc c
  | .lst i, c, h => intsOf_x i c h
  | .non, c, h => by cases h
  | .bl _, c, h => by cases h
  | .int _, c, h => by cases h
  | .str _, c, h => by cases h
  | .ty _, c, h => by cases h
  | .tup _, c, h => by cases h
  | .obj _ _ _, c, h => by cases h
  | .ro _, c, h => by cases h
  | .dct _ _, c, h => by cases h
theorem intsOf_map : ∀ (y : List Int), intsOf (y.map D.int) = .ok y
  | [] => rfl
  | i :: r => by show (intsOf (r.map D.int)).bind _ = _; rw [intsOf_map r]; rfl
theorem asInts_toD (y : List Int) : (toD y).asInts = .ok y := intsOf_map y
/-- xs[lo:hi] -/
def cutL {α : Type} (xs : List α) (lo hi : Option Int) : List α := (xs.drop (HT.sIx xs.length 0 lo)).take (HT.sIx xs.length xs.length hi - HT.sIx xs.length 0 lo)
section
variable {K : PySem.W.Frag} {W : WX} {F0 H0 F H F' H' F1 : Hp} {rt : VK} {PT : En → Prop} {env env' : En} {α β γ τ : Type} [ToD α] [ToD β] [ToD γ] [ToD τ] {KP : Res τ → Prop} {te ta tb tc : TE} {tt : TT} {Z : Ends} {t u : TS} {T : L2.St → Hp → Prop} {σ : L2.St}
theorem ev_bits {m : Res Int} (h : EvX K W env te m) : EvX K W env (tBits te) (m.bind fun i => .ok ((Builtin.Int.intBits i : Nat) : Int)) := fun F0 H0 F H σ Q S k => by
  refine h F0 H0 F H σ _ S (KE.cut S.ex k fun x v F1 H1 e1 a1 r1 k1 => ?_)
  exact ⟨x, r1, k1 _ F1 H1 (Adv.refl a1.in_) rfl⟩
theorem ev_cast {m : Res D} {f : D → Res α} (hf : ∀ x y, f x = .ok y → toD y = x) (hx : ∀ x c, f x ≠ .exc c) (h : EvX K W env te m) : EvX K W env te (m.bind f) := fun F0 H0 F H σ Q S k => by
  refine h F0 H0 F H σ _ S ?_
  cases m with
  | ok x =>
    intro v F1 H1 a r
    have k : KE K W F H σ Q (f x) := k
    cases e : f x with
    | ok y => rw [e] at k; exact k v F1 H1 a (by rw [hf x y e]; exact r)
    | exc c => exact absurd e (hx x c)
    | stuck => rw [e] at k; exact k.elim
  | exc c => exact k
  | stuck => exact k.elim
theorem blk_fin {Q : VK} {x : τ} (L : Lk K W F0 H0 Q PT KP) (hx : toD x = .non) : Blk K F0 H0 KP (fun _ H' => Q .non H') env (.ok x) := fun F H σ S h => L.ok x h .non F H S.adv (by rw [hx]; rfl)
/-- what follows first, then the statement -/
theorem blk_with {m1 m : Res τ} {env1 : En} (h1 : Blk K F0 H0 KP Z.nx env1 m1) (h2 : Blk K F0 H0 KP Z.nx env1 m1 → Blk K F0 H0 KP (t Z) env m) : Blk K F0 H0 KP (t Z) env m := h2 h1
theorem blk_if2 {m : Res Bool} {a b : Res τ} (L : Lk K W F0 H0 rt PT KP) (hT : PT env) (hc : EvT K W env tt m) (h1 : Blk K F0 H0 KP (t Z) env a) (h2 : Blk K F0 H0 KP (u Z) env b) :
    Blk K F0 H0 KP (tIfS tt t u Z) env (m.bind fun c => cond c a b) := blk_if L hT hc h1 h2
theorem blk_ifj {S : Type} (envS : S → En) (k : S → Res τ) {m : Res Bool} {a b : Res τ} (L : Lk K W F0 H0 rt PT KP) (hT : PT env) (hc : EvT K W env tt m) (hr : ∀ s, Blk K F0 H0 KP Z.nx (envS s) (k s))
    (h1 : (∀ s, Blk K F0 H0 KP Z.nx (envS s) (k s)) → Blk K F0 H0 KP (t Z) env a) (h2 : (∀ s, Blk K F0 H0 KP Z.nx (envS s) (k s)) → Blk K F0 H0 KP (u Z) env b) :
    Blk K F0 H0 KP (tIfS tt t u Z) env (m.bind fun c => cond c a b) := blk_if L hT hc (h1 hr) (h2 hr)
end
/-- try: .. except X as n: .. -/
def tTry (K : PySem.W.Frag) (c : Value) (i : Nat) (ts : Addr → Value → Option Addr → TS) (W : WX) (tb : WX → TS) : TS := fun D σ H => tb (wAs K c i ts W D) D σ H
section
variable {X : Cx} {x n : Str} {i : Nat} {c : Value} {body suite : List Stmt} {b₀ : Stmt} {np pos pos' : Pos} {tb : WX → TS} {ts : Addr → Value → Option Addr → TS} {Wout : WX}
theorem ps_tryW (hs : X.stack = X.env :: X.outer) (hf : X.env.frame = some X.env.locals) (hN : X.N.Nodup) (hi : X.N[i]? = some n) (hln : X.env.kindOf n = some .local) (hc : Names X x c) (tk : Takes X Wout)
    (hb : ∀ (W : WX) (pn : List (Addr × Obj)) (xe : Value → Shared → Prop), Takes (X.tr pn xe) W → PassesOwn (model X.prog X.w) X.A X.env xe → PSs (X.tr pn xe) body (tb W))
    (hsu : ∀ (a : Addr) (oe : Obj) (cls : Value) (d : Option Addr) (pn : List (Addr × Obj)), Zc cls d oe → (∃ vs, oe.data = .fields vs) → PSs (X.suite a ((a, oe) :: pn)) (b₀ :: suite) (ts a cls d)) :
    PS X (.Try body [.ExceptHandler (some (.Name x np)) (some n) (b₀ :: suite) pos'] [] [] pos) (tTry X.K c i ts Wout tb) := ps_try_as hs hf hN hi hln hc tk hb hsu
end
section
variable {K : PySem.W.Frag} {W : WX} {F0 H0 F H F' H' F1 : Hp} {rt : VK} {PT : En → Prop} {env env' : En} {τ : Type} [ToD τ] {KP : Res τ → Prop} {Z : Ends}
theorem blk_tryW {S : Type} {cs : List Str} {sub : Str → Str → Bool} {x : Str} {i : Nat} {tb : WX → TS} {ts : Addr → Value → Option Addr → TS} {envS : S → En} {m : Res (Fall S τ)} {rest : S → Res τ} {hd : Str → Res τ}
    (L : Lk K W F0 H0 rt PT KP) (hT : PT env) (C : Cls K cs sub) (hx : x ∈ cs)
    (hb : ∀ (W' : WX) (KP' : Res (Fall S τ) → Prop), Lk K W' F0 H0 rt (fun e => EnLe e env) KP' → (∀ s, Blk K F0 H0 KP' Z.nx (envS s) (.ok (.go s))) → Blk K F0 H0 KP' (tb W' Z) env m)
    (hs : ∀ (c : Str) (a : Addr) (nx bk ct : L2.St → Hp → Prop), c ∈ cs → sub c x = true → (∀ env' m', Blk K F0 H0 KP Z.nx (env'.set i none) m' → Blk K F0 H0 KP nx env' m') →
      Blk K F0 H0 KP (ts a (.ref (He.ga K c)) none { nx := nx, rt := rt, bk := bk, ct := ct }) (env.set i (some (.raw (.ref a)))) (hd c))
    (hr : ∀ s, Blk K F0 H0 KP Z.nx (envS s) (rest s)) (hZ : Z.rt = rt := by rfl) :
    Blk K F0 H0 KP (tTry K (.ref (He.ga K x)) i ts W tb Z) env (tryR (fun c => decide (c ∈ cs)) (fun c => sub c x) m rest hd) := blk_tryAs L hT C hx hb hs hr hZ
end
section
variable {X : Cx}
theorem ip_of {op : Operator} {r : R2} (h : OpR X (inplaceOp op) r) : PIp X op r := by
  intro pins s σ H x y v u Q I rx ry q
  exact h pins s σ H x y v u Q I rx ry q
theorem iop_mulX : OpR X (inplaceOp .Mult) (rI CMulX fun i j => .int (i * j)) := opI fun _ _ _ _ _ _ _ hc q => PyProof.Rows.imul_int q hc.ok
end

/-! ### the errors' facts, by one Bool -/
def eqOV (a : Option (Option Value)) (b : Value) : Bool := decide (a = some (some b))
def excCB (K : PySem.W.Frag) (C : Addr) : Bool :=
  He.eqO (PySem.W.findIn K (.ref C) "__getattribute__") (some (some (.builtin "BaseException.__getattribute__"))) && (He.eqO (PySem.W.findIn K (.ref C) "__getattr__") (some none) && (decide (PySem.W.subIn K (.ref C) (.type "BaseException") = some true) && (PySem.W.hasDictIn K C &&
    (He.eqO (PySem.W.findIn K (.ref C) "__class__") (some (some (.builtin "object.__class__"))) && (He.eqO (PySem.W.specialIn K (.builtin "object.__class__") "__get__") (some (some (.builtin "getset_descriptor.__get__"))) &&
      (decide (PySem.W.takesIn K (.builtin "object.__class__") = some true) && decide (PySem.W.mroIn K C (.type "object") = some true)))))))
theorem excC_of {K : PySem.W.Frag} {C : Addr} (h : excCB K C = true) : ExcC K C := by
  obtain ⟨h1, h⟩ := He.ba h
  obtain ⟨h2, h⟩ := He.ba h
  obtain ⟨h3, h⟩ := He.ba h
  obtain ⟨h4, h⟩ := He.ba h
  obtain ⟨h5, h⟩ := He.ba h
  obtain ⟨h6, h⟩ := He.ba h
  obtain ⟨h7, h8⟩ := He.ba h
  exact ⟨He.eqO_ok h1, He.eqO_ok h2, of_decide_eq_true h3, h4, He.eqO_ok h5, He.eqO_ok h6, of_decide_eq_true h7, of_decide_eq_true h8⟩
def clsB (K : PySem.W.Frag) (cs : List Str) (sub : Str → Str → Bool) : Bool := cs.all fun c => excCB K (He.ga K c) && ((cs.all fun d => decide (PySem.W.kitOne K (.ref (He.ga K c)) (.ref (He.ga K d)) = some (sub c d)) && decide (PySem.W.exmOne K (.ref (He.ga K c)) (.ref (He.ga K d)) = some (sub c d))) &&
  decide (PySem.W.kitOne K (.ref (He.ga K c)) (.type "ValueError") = some true))
theorem cls_of {K : PySem.W.Frag} {cs : List Str} {sub : Str → Str → Bool} (h : clsB K cs sub = true) : Cls K cs sub := by
  have h1 : ∀ c ∈ cs, _ := fun c hc => He.ba (List.all_eq_true.mp h c hc)
  refine ⟨fun c hc => excC_of (h1 c hc).1, fun c hc d hd => ?_, fun c hc d hd => ?_, fun c hc => ?_⟩
  · exact of_decide_eq_true (He.ba (List.all_eq_true.mp (He.ba (h1 c hc).2).1 d hd)).2
  · exact of_decide_eq_true (He.ba (List.all_eq_true.mp (He.ba (h1 c hc).2).1 d hd)).1
  · exact of_decide_eq_true (He.ba (h1 c hc).2).2
end Mi
set_option maxHeartbeats 1000000
namespace Mi
open PySem PySem.Spec L2
open Evl (Ex)
theorem walk_end {l : PySem.W.OpenLaw} {n k : Nat} {q : Program} {loose : List Str} {XP : (Str → Option Value) → Heap → Prop} {YP : World → Heap → Prop} {d : PySem.DefRec} {x : Str} {m : Ro Int → Res Bool}
    (hn : l.most = some n) (hn2 : n ≤ sizeLine) (hdf : d.params.defaults = []) (hr : Room k PySem.callerA)
    (F : ∀ (w : World) (mg : Str → Option Value) (fa : Addr) (h : Heap), YP w h → h.Ns mainGlobals mg → mg d.name = some (.ref fa) →
      ∃ (K : PySem.W.Frag) (fd : FuncData), K.In h ∧ (∀ (s : Shared) (u : Value), PySem.BindsTo s fd ⟨[u], []⟩ [(x, u)]) ∧
        ∀ base : Heap, K.In base → base.Ns mainGlobals mg → FnOk l.prog w K mg base (L2.CX l.prog w) k fa fd [x] (spM K (fun (p : Ro Int × Unit) => m p.1)))
    (ht : ∀ ns : List Int, ns.length ≤ n → (∀ i ∈ ns, Builtin.Int.intBits i ≤ 1048576) → m ⟨ns⟩ = .ok true) :
    PySem.W.WalkO q loose XP YP l.row.toRowW d [] (fun f vs => PySem.call f vs) := by
  refine Att.attach_callB hn hdf fun w s₀ s₁ mg mb fa o pm cd doc a vs ns G Y ho hd hcd hmg hobj hints hlen hbits hg => ?_
  obtain ⟨K, fd, KX, hb, hF⟩ := F w mg fa _ Y G.T.g hmg
  refine law_call KX G.T.g G.T.b G.T.builtins G.T.nolimit hg hobj hints (Nat.le_trans hlen hn2) hr hF hb (fun H hO hS => ?_) fun H e s' z => ?_
  · refine ⟨H, (⟨ns⟩, ()), Ex.refl H, ⟨.ref a, [], rfl, ⟨a, ns.map V.int, rfl, hS, Reps.of_ints ns⟩, rfl⟩, ?_⟩
    show KE K _ H H [] _ (m ⟨ns⟩)
    rw [ht ns hlen hbits]
    exact fun v F' H' _ r => r
  · obtain ⟨_, _, _, _, _, _, _, _, _, _, _, _, z⟩ := z
    exact z
end Mi
set_option maxHeartbeats 1000000
namespace Mi
open PySem PySem.Spec L2
open Evl (Ex)
abbrev rLenS (K : PySem.W.Frag) : List V → Hp → VK → Prop := fun xs H Q => ∃ p ys, xs = [.ref p] ∧ (SqL K H p ys ∨ SqT K H p ys) ∧ Q (.int ys.length) H
theorem cr_len {X : Cx} {K : PySem.W.Frag} (h : X.K = K) : CallR X (.builtin "len") (rLenS K) := by
  subst h; exact call_len_seq
theorem cr_ixL {X : Cx} {K : PySem.W.Frag} (h : X.K = K) : IxR X (rIxL K) := by
  subst h; exact ix_list
theorem cr_ixT {X : Cx} {K : PySem.W.Frag} (h : X.K = K) : IxR X (rIxT K) := by
  subst h; exact ix_tup
theorem cr_slL {X : Cx} {K : PySem.W.Frag} (h : X.K = K) : SlR X (rSlL K) := by
  subst h; exact sl_list
section
variable {K : PySem.W.Frag} {W : WX} {F0 H0 F H F' H' F1 : Hp} {rt : VK} {PT : En → Prop} {env env' : En} {α β γ τ : Type} [ToD α] [ToD β] [ToD γ] [ToD τ] {KP : Res τ → Prop} {te ta tb tc : TE} {tt : TT} {Z : Ends} {t u : TS} {T : L2.St → Hp → Prop} {σ : L2.St}
/-- xs[::-1] -/
theorem en_rev {m : Res (List α)} (h : EvX K W env te m) : EvN K W env (tRevL K te) (m.bind fun xs => .ok xs.reverse) := fun F0 H0 F H σ Q S k => by
  refine h F0 H0 F H σ _ S ?_
  cases m with
  | ok xs =>
    intro v F1 H1 a r
    obtain ⟨p, vs, rfl, h1, h2⟩ := r
    refine ⟨p, vs, rfl, sq_ex a.in_ h1, fun l hl => ?_⟩
    refine k l _ F1 _ (a.trans (Adv.newO a.in_ hl)) (Evl.fresh_back a.h hl) (none_of_ex a.in_ hl) upd_same ?_
    rw [List.map_reverse]
    exact Reps.reverse h2
  | exc c => exact k
  | stuck => exact k.elim
/-- the parts of a text of an error -/
def EvJ (K : PySem.W.Frag) (W : WX) (env : En) (ts : List TE) (N : Nat) (m : Res Unit) : Prop :=
  ∀ F0 H0 F H σ acc (Q : Str → Hp → Prop), Sl K F0 H0 F H σ env → acc.length + N ≤ sizeLine → KE K W F H σ (fun _ H' => ∀ out, Q out H') m → tJs ts acc σ H Q
theorem ej_nil : EvJ K W env [] 0 (.ok ()) := fun F0 H0 F H σ acc Q S hn k => k .non F H (Adv.refl S.ex) rfl acc
theorem ej_txt {x : Str} {n N : Nat} {ts : List TE} {m : Res Unit} (hx : x.length ≤ n) (h : EvJ K W env ts N m) : EvJ K W env (tC (.str x) :: ts) (n + N) m := fun F0 H0 F H σ acc Q S hn k => by
  have e : (acc ++ x).length = acc.length + x.length := Str.length_append ..
  exact ⟨x, rfl, by omega, h F0 H0 F H σ (acc ++ x) Q S (by omega) k⟩
theorem ej_int {te : TE} {N : Nat} {ts : List TE} {m1 : Res Int} {m : Res Unit} (h1 : EvX K W env te m1) (h : EvJ K W env ts N m) : EvJ K W env (tFmt te :: ts) (1000 + N) (m1.bind fun i => .need (i.natAbs.log2 < 1920 ∧ (toString i : Str).length ≤ 1000) m) := fun F0 H0 F H σ acc Q S hn k => by
  refine h1 F0 H0 F H σ _ S (k.cut S.ex fun i v F1 H1 e1 a1 r1 k1 => ?_)
  have r1 : v = V.int i := r1
  subst r1
  by_cases q : i.natAbs.log2 < 1920 ∧ (toString i : Str).length ≤ 1000
  · rw [Res.need_pos q] at k1
    have e : (acc ++ toString i).length = acc.length + (toString i : Str).length := Str.length_append ..
    exact .inr ⟨i, rfl, q.1, toString i, rfl, by omega, h F0 H0 F1 H1 σ _ Q (S.step a1) (by omega) k1⟩
  · rw [Res.need_neg q] at k1; exact k1.elim
theorem blk_raiseJ {c : Str} {m : Res Unit} {ts : List TE} {N : Nat} (L : Lk K W F0 H0 rt PT KP) (hT : PT env) (hN : N ≤ sizeLine) (he : EvJ K W env ts N m) : Blk K F0 H0 KP (fun σ H => tJs ts Str.empty σ H fun _ H1 => W (.ref (He.ga K c)) none σ H1) env (m.bind fun _ => .exc c) := fun F H σ S h => by
  refine he F0 H0 F H σ _ _ S (by show 0 + N ≤ _; omega) (L.ke hT S h fun x v F1 H1 e1 a1 r1 h1 => ?_)
  exact fun _ => L.exc c F1 H1 σ env h1 hT (S.step a1)
end
end Mi
set_option maxHeartbeats 1000000
namespace Mi
open PySem PySem.Spec L2
open Evl (Ex)

/-! ### own classes: rules with what is raised at the caller's slots -/
section
variable {X : Cx} {CX : CXT} {k : Nat} {f C : Addr} {fd : FuncData} {ps : List Str} {sp : Sp} {E : L2.St → XK} {x m : Str} {p pos apos : Pos} {e o : Expr} {es : List Expr} {ta : TE} {t : TA}
def tMethQ (C : Addr) (m : Str) (sp : Sp) (E : L2.St → XK) (ta : TE) (t : TA) : TE := fun σ H Q => ta σ H fun x H1 => ∃ a dx fs, x = .ref a ∧ H1 a = some (.ins C dx fs) ∧ fs.lookup m = none ∧ t σ H1 fun vs H2 => sp (x :: vs) H2 Q (E σ)
theorem pe_methQ {pl : Sem Bool} (he : PE X o ta) (c : L2.Cls X.K C) (hm : Meth X.K C m f) (F : FnOk X.prog X.w X.K X.mg X.base CX k f fd ps sp) (hr : Room k X.A) (hb : Binds X.K fd ps []) (hx : ∀ σ, PassesAt CX X σ (E σ)) (ha : PA X (e :: es) t)
    (hst : starEach (e :: es) X.env = (false, eval e X.env) :: starEach es X.env := by rfl) (hpl : (backTo pos (starEach es X.env)).any (·.1) = false := by rfl)
    (ht : eval (.Call (.Attribute o m apos) (e :: es) [] pos) X.env = (do
      let ov ← eval o X.env
      standAt apos.atName
      let (f, first) ← holding [ov] (getMethod ov m pl)
      callWith pos f first (backTo pos (starEach (e :: es) X.env)) (backToKw pos (keywordEach [] X.env))) := by rfl) :
    PE X (.Call (.Attribute o m apos) (e :: es) [] pos) (tMethQ C m sp E ta t) := by
  refine ⟨fun pins s σ H Q I h => ?_⟩
  refine PySem.W.methodCall_KW (pl := pl) (thn (he.run pins s σ H _ I h) fun u s1 ⟨x, H1, I1, rx, a, dx, fs, ex, ea, l, q⟩ => ?_) ht
  subst ex
  obtain rfl : u = Value.ref a := rx
  refine getmeth_ok I1 ea c hm l ?_
  refine PySem.W.callWith_K (first := [.ref a]) (h₀ := X.base) I.ok.mod.kin hm.kp (thn (ha.run pos pins s1 σ H1 _ I1 q) fun us s2 ⟨vs, H2, I2, r, q2⟩ => ⟨I2.kIn, ?_⟩) hst hpl
  exact run_fnS (us := .ref a :: us) (vs := .ref a :: vs) F hr hb (hx σ) I2 (.cons rfl r) q2
theorem pe_methQ0 {pl : Sem Bool} (he : PE X o ta) (c : L2.Cls X.K C) (hm : Meth X.K C m f) (F : FnOk X.prog X.w X.K X.mg X.base CX k f fd ps sp) (hr : Room k X.A) (hb : Binds X.K fd ps []) (hx : ∀ σ, PassesAt CX X σ (E σ))
    (ht : eval (.Call (.Attribute o m apos) [] [] pos) X.env = (do
      let ov ← eval o X.env
      standAt apos.atName
      let (f, first) ← holding [ov] (getMethod ov m pl)
      callWith pos f first (backTo pos (starEach [] X.env)) (backToKw pos (keywordEach [] X.env))) := by rfl) :
    PE X (.Call (.Attribute o m apos) [] [] pos) (tMethQ C m sp E ta tNil) := by
  refine ⟨fun pins s σ H Q I h => ?_⟩
  refine PySem.W.methodCall_KW (pl := pl) (thn (he.run pins s σ H _ I h) fun u s1 ⟨x, H1, I1, rx, a, dx, fs, ex, ea, l, q⟩ => ?_) ht
  subst ex
  obtain rfl : u = Value.ref a := rx
  refine getmeth_ok I1 ea c hm l ?_
  exact PySem.W.callWith_K0 (first := [.ref a]) I1.kIn hm.kp (run_fnS (us := [.ref a]) (vs := [.ref a]) F hr hb (hx σ) I1 (.cons rfl .nil) q)
def tMakeQ (C : Addr) (sp : Sp) (E : L2.St → XK) (t : TA) : TE := fun σ H Q => t σ H fun vs H1 => ∀ x dx, H1 x = none → H1 dx = none → dx ≠ x → sp (.ref x :: vs) (upd (upd H1 dx (.own x)) x (.ins C dx [])) (fun v H2 => v = .non ∧ Q (.ref x) H2) (E σ)
theorem run_makeQ {pins : List (Addr × Obj)} {σ : L2.St} {H : Hp} {s : Shared} {Q : VK} {us : List Value} {vs : List V} (M : Mk X.K C f) (F : FnOk X.prog X.w X.K X.mg X.base CX k f fd ps sp) (hr : Room (k + 1) X.A) (hb : Binds X.K fd ps [])
    (hx : PassesAt CX X σ (E σ)) (I : Inv X pins σ H s) (r : Vals vs us)
    (h : ∀ x dx, H x = none → H dx = none → dx ≠ x → sp (.ref x :: vs) (upd (upd H dx (.own x)) x (.ins C dx [])) (fun v H2 => v = .non ∧ Q (.ref x) H2) (E σ)) :
    wpAny (model X.prog X.w) X.A (call (.ref C) us) (EP X pins σ Q) X.xe s := by
  have hq := h (s.heap.objs.size + 1) s.heap.objs.size (I.hok.fresh (Nat.le_succ _)) (I.hok.fresh (Nat.le_refl _)) (Nat.ne_of_lt (Nat.lt_succ_self _))
  have I2 := Inv.made (C := C) I
  have r2 : Vals (V.ref (s.heap.objs.size + 1) :: vs) (Value.ref (s.heap.objs.size + 1) :: us) := .cons rfl r
  have hl : (Value.ref (s.heap.objs.size + 1) :: us ++ []).length = ps.length := by
    rw [List.append_nil]
    have e := r2.length
    rw [F.len _ _ _ _ hq] at e
    exact e.symm
  have b := hb _ (Value.ref (s.heap.objs.size + 1) :: us) I2.kIn hl
  rw [List.append_nil] at b
  refine wpAny_call (make_map (f := f) I.kIn M.makes M.init (beq_iff_eq.mp M.fn) (codeAny_mono (F.run _ X.stack _ _ ⟨Value.ref (s.heap.objs.size + 1) :: us, []⟩ (Value.ref (s.heap.objs.size + 1) :: us) _ _ (E σ) (hr.make C us [])
    (I2.env0.make C us []) b r2 hq) fun r s' hq' => ?_))
  cases r with
  | error e => exact hx pins _ _ e s' I2 hq'
  | ok fl =>
    cases fl with
    | ret u =>
      obtain ⟨v, H', I3, rv, ev, q3⟩ := I2.after hq'
      subst ev
      exact ⟨rv, ⟨V.ref (s.heap.objs.size + 1), H', I3, rfl, q3⟩⟩
    | next => exact False.elim hq'
    | brk => exact False.elim hq'
    | cont => exact False.elim hq'
theorem pe_makeQ (M : Mk X.K C f) (F : FnOk X.prog X.w X.K X.mg X.base CX k f fd ps sp) (hr : Room (k + 1) X.A) (hg : Gl X x) (hm : X.mg x = some (.ref C)) (hb : Binds X.K fd ps []) (hx : ∀ σ, PassesAt CX X σ (E σ))
    (ha : PA X (e :: es) t) (hdb : (x == ("__debug__" : Str)) = false := by decide) (he : starEach (e :: es) X.env = (false, eval e X.env) :: starEach es X.env := by rfl) (hpl : (backTo pos (starEach es X.env)).any (·.1) = false := by rfl) :
    PE X (.Call (.Name x p) (e :: es) [] pos) (tMakeQ C sp E t) := by
  refine ⟨fun pins s σ H Q I h => ?_⟩
  refine wpAny_Call_Name_kw (ld_glob I hg hm ?_ hdb)
  refine PySem.W.callWith_K (h₀ := X.base) I.ok.mod.kin M.kp (thn (ha.run pos pins s σ H _ I h) fun us s1 ⟨vs, H1, I1, r, q⟩ => ⟨I1.kIn, ?_⟩) he hpl
  exact run_makeQ M F hr hb (hx σ) I1 r q
theorem pe_makeQ0 (M : Mk X.K C f) (F : FnOk X.prog X.w X.K X.mg X.base CX k f fd ps sp) (hr : Room (k + 1) X.A) (hg : Gl X x) (hm : X.mg x = some (.ref C)) (hb : Binds X.K fd ps []) (hx : ∀ σ, PassesAt CX X σ (E σ))
    (hdb : (x == ("__debug__" : Str)) = false := by decide) : PE X (.Call (.Name x p) [] [] pos) (tMakeQ C sp E tNil) := by
  refine ⟨fun pins s σ H Q I h => ?_⟩
  refine wpAny_Call_Name_kw (ld_glob I hg hm ?_ hdb)
  exact PySem.W.callWith_K0 I.kIn M.kp (run_makeQ (us := []) M F hr hb (hx σ) I .nil h)
end

/-! ### fields by their place -/
def posK (f : Str) : List Str → Option Nat
  | [] => none
  | g :: r => if g = f then some 0 else (posK f r).map (· + 1)
theorem lookup_pos {f : Str} {v : V} : ∀ {ks : List Str} {vs : List V} {j : Nat}, posK f ks = some j → vs[j]? = some v → (ks.zip vs).lookup f = some v
  | [], _, _, h, _ => by cases h
  | g :: r, [], j, h, q => by simp at q
  | g :: r, w :: ws, j, h, q => by
    unfold posK at h
    by_cases c : g = f
    · rw [if_pos c] at h; cases h
      simp at q; subst q c
      simp [List.zip_cons_cons, List.lookup]
    · rw [if_neg c] at h
      have c2 : (f == g) = false := beq_eq_false_iff_ne.mpr fun z => c z.symm
      cases e : posK f r with
      | none => rw [e] at h; cases h
      | some i =>
        rw [e] at h; cases h
        simp only [List.zip_cons_cons, List.lookup, c2]
        exact lookup_pos e (by simpa using q)
theorem lookup_no {f : Str} : ∀ {ks : List Str} {vs : List V}, posK f ks = none → (ks.zip vs).lookup f = none
  | [], _, _ => rfl
  | g :: r, [], _ => rfl
  | g :: r, w :: ws, h => by
    unfold posK at h
    by_cases c : g = f
    · rw [if_pos c] at h; cases h
    · rw [if_neg c] at h
      have c2 : (f == g) = false := beq_eq_false_iff_ne.mpr fun z => c z.symm
      simp only [List.zip_cons_cons, List.lookup, c2]
      refine lookup_no ?_
      cases e : posK f r with
      | none => rfl
      | some i => rw [e] at h; cases h
theorem putF_new {f : Str} {v : V} : ∀ {ks : List Str} {vs : List V}, posK f ks = none → ks.length = vs.length → putF f v (ks.zip vs) = (ks ++ [f]).zip (vs ++ [v])
  | [], [], _, _ => rfl
  | [], _ :: _, _, h => by simp at h
  | g :: r, [], _, h => by simp at h
  | g :: r, w :: ws, h, hl => by
    unfold posK at h
    by_cases c : g = f
    · rw [if_pos c] at h; cases h
    · rw [if_neg c] at h
      show (if g = f then _ else (g, w) :: putF f v (r.zip ws)) = _
      rw [if_neg c]
      rw [putF_new (ks := r) (vs := ws) (by cases e : posK f r with | none => rfl | some i => rw [e] at h; cases h) (by simpa using hl)]
      rfl
theorem putF_old {f : Str} {v : V} : ∀ {ks : List Str} {vs : List V} {j : Nat}, posK f ks = some j → ks.length = vs.length → putF f v (ks.zip vs) = ks.zip (vs.set j v)
  | [], _, _, h, _ => by cases h
  | g :: r, [], _, _, h => by simp at h
  | g :: r, w :: ws, j, h, hl => by
    unfold posK at h
    by_cases c : g = f
    · rw [if_pos c] at h; cases h
      show (if g = f then (g, v) :: r.zip ws else _) = _
      rw [if_pos c]; rfl
    · rw [if_neg c] at h
      cases e : posK f r with
      | none => rw [e] at h; cases h
      | some i =>
        rw [e] at h; cases h
        show (if g = f then _ else (g, w) :: putF f v (r.zip ws)) = _
        rw [if_neg c, putF_old e (by simpa using hl)]
        rfl
section
variable {K : PySem.W.Frag} {W : WX} {F0 H0 F H F' H' F1 : Hp} {rt : VK} {PT : En → Prop} {env env' : En} {α β γ τ : Type} [ToD α] [ToD β] [ToD γ] [ToD τ] {KP : Res τ → Prop} {te ta tb tc : TE} {tt : TT} {Z : Ends} {t u : TS} {T : L2.St → Hp → Prop} {σ : L2.St}
/-- e.f, e an object that stands still -/
theorem ev_fld {m : Res α} {g : α → β} {c f : Str} {ks : List Str} {j : Nat} (he : EvX K W env te m) (hc : L2.Cls K (He.ga K c)) (hn : NoAttr K (He.ga K c) f) (hj : posK f ks = some j) (hf : ∀ x : α, ∃ ds, toD x = .obj c ks ds ∧ ds[j]? = some (toD (g x))) :
    EvX K W env (tFld K te f) (m.bind fun x => .ok (g x)) := fun F0 H0 F H σ Q S k => by
  refine he F0 H0 F H σ _ S (KE.cut S.ex k fun x v F1 H1 e1 a1 r1 k1 => ?_)
  obtain ⟨ds, e, q⟩ := hf x
  rw [e] at r1
  obtain ⟨a, dx, vs, rfl, h2, h3, h4⟩ := r1
  obtain ⟨w, hw, rw_⟩ := Reps.get h4 q
  exact ⟨a, _, dx, _, w, rfl, a1.in_ _ _ h2, hc, hn, lookup_pos hj hw, k1 _ F1 H1 (Adv.refl a1.in_) rw_⟩
/-- self.f, self an object that is being made -/
theorem ev_fldO {x : α} {c f : Str} {pp : Option Addr} {ks : List Str} {ds : List D} {i j : Nat} (hi : env[i]? = some (some (.oi pp c ks ds))) (hc : L2.Cls K (He.ga K c)) (hn : NoAttr K (He.ga K c) f) (hj : posK f ks = some j) (hd : ds[j]? = some (toD x)) :
    EvX K W env (tFld K (tVar i) f) (.ok x) := fun F0 H0 F H σ Q S k => by
  obtain ⟨v, e, p, dx, vs, rfl, h0, hf, hp, hl, hr, _⟩ := S.slot i _ hi
  obtain ⟨w, hw, rw_⟩ := Reps.get hr hd
  exact ⟨_, e, p, _, dx, _, w, rfl, hp, hc, hn, lookup_pos hj hw, k _ F H (Adv.refl S.ex) rw_⟩
/-- self.f = e, a new field -/
theorem blk_fldN {i : Nat} {m : Res α} {g : α → Res τ} {c f : Str} {pp : Option Addr} {ks : List Str} {ds : List D} (L : Lk K W F0 H0 rt PT KP) (hT : PT env) (he : EvX K W env te m) (hi : env[i]? = some (some (.oi pp c ks ds))) (hc : L2.Cls K (He.ga K c)) (hn : NoAttr K (He.ga K c) f) (hj : posK f ks = none) (hk : ks.length < 1000)
    (k : ∀ x, Blk K F0 H0 KP Z.nx (env.set i (some (.oi pp c (ks ++ [f]) (ds ++ [toD x])))) (g x)) : Blk K F0 H0 KP (sFld K (tVar i) te f Z) env (m.bind g) := fun F H σ S h =>
  he F0 H0 F H σ _ S (L.ke hT S h fun x v F1 H1 e1 a1 r1 h1 => by
    have S1 := S.step a1
    obtain ⟨w, e, p, dx, vs, rfl, h0, hf, hp, hl, hr, hpp⟩ := S1.slot i _ hi
    refine ⟨_, e, p, _, dx, _, rfl, hp, hc, hn, by rw [List.length_zip, ← hl, Nat.min_self]; exact hk, ?_⟩
    refine k x F1 _ σ (S1.chgO hi rfl e hf h0 ⟨p, dx, vs ++ [v], rfl, h0, hf, ?_, by simp [hl], Reps.append hr (Reps.one r1), hpp⟩) h1
    rw [upd_same, putF_new hj hl])
/-- self.f = e, a field that is there -/
theorem blk_fldR {i j : Nat} {m : Res α} {g : α → Res τ} {c f : Str} {pp : Option Addr} {ks : List Str} {ds : List D} (L : Lk K W F0 H0 rt PT KP) (hT : PT env) (he : EvX K W env te m) (hi : env[i]? = some (some (.oi pp c ks ds))) (hc : L2.Cls K (He.ga K c)) (hn : NoAttr K (He.ga K c) f) (hj : posK f ks = some j) (hk : ks.length < 1000)
    (k : ∀ x, Blk K F0 H0 KP Z.nx (env.set i (some (.oi pp c ks (ds.set j (toD x))))) (g x)) : Blk K F0 H0 KP (sFld K (tVar i) te f Z) env (m.bind g) := fun F H σ S h =>
  he F0 H0 F H σ _ S (L.ke hT S h fun x v F1 H1 e1 a1 r1 h1 => by
    have S1 := S.step a1
    obtain ⟨w, e, p, dx, vs, rfl, h0, hf, hp, hl, hr, hpp⟩ := S1.slot i _ hi
    refine ⟨_, e, p, _, dx, _, rfl, hp, hc, hn, by rw [List.length_zip, ← hl, Nat.min_self]; exact hk, ?_⟩
    refine k x F1 _ σ (S1.chgO hi rfl e hf h0 ⟨p, dx, vs.set j v, rfl, h0, hf, ?_, by simp [hl], Reps.set j hr r1, hpp⟩) h1
    rw [upd_same, putF_old hj hl])
/-- o.m(e, ..), o an object that stands still -/
theorem ev_meth {δ : Type} [ToDs δ] {ts : TA} {mo : Res α} {ma : Res δ} {c m : Str} {ks : List Str} {f : α × δ → Res β} (ho : EvX K W env te mo) (ha : EvA K W env ts ma) (hj : posK m ks = none) (hf : ∀ x : α, ∃ ds, toD x = .obj c ks ds) :
    EvX K W env (tMethQ (He.ga K c) m (spM K f) (WE W) te ts) (mo.bind fun x => ma.bind fun y => f (x, y)) := fun F0 H0 F H σ Q S k => by
  refine ho F0 H0 F H σ _ S (KE.cut S.ex k fun x v F1 H1 e1 a1 r1 k1 => ?_)
  obtain ⟨ds, e⟩ := hf x
  have r1' := r1
  rw [e] at r1
  obtain ⟨a, dx, vs, rfl, h2, h3, h4⟩ := r1
  refine ⟨a, dx, _, rfl, a1.in_ _ _ h2, lookup_no hj, ?_⟩
  refine ha F0 H0 F1 H1 σ _ (S.step a1) ?_
  cases ma with
  | ok y =>
    intro ws F2 H2 a2 r2
    have k1 : KE K W F1 H1 σ Q (f (x, y)) := k1
    have k1 := k1.adv a2
    refine ⟨F2, (x, y), a2.in_, ⟨_, ws, rfl, Rep.mono a2.f _ _ r1', r2⟩, ?_⟩
    revert k1
    generalize f (x, y) = z
    intro k1
    cases z with
    | ok z => exact k1
    | exc c => exact k1
    | stuck => exact k1.elim
  | exc c => exact k1
  | stuck => exact k1.elim
theorem ev_meth0 {δ : Type} [ToDs δ] {ts : TA} {mo : Res α} {ma : Res δ} {c m : Str} {ks : List Str} {f : α × δ → Res β} (ho : EvX K W env te mo) (ha : EvA K W env ts ma) (hj : posK m ks = none) (hf : ∀ x : α, ∃ ds, toD x = .obj c ks ds) :
    EvX K W env (tMeth (He.ga K c) m (spM K f) [] E0 te ts) (mo.bind fun x => ma.bind fun y => (f (x, y)).noexc) := fun F0 H0 F H σ Q S k => by
  refine ho F0 H0 F H σ _ S (KE.cut S.ex k fun x v F1 H1 e1 a1 r1 k1 => ?_)
  obtain ⟨ds, e⟩ := hf x
  have r1' := r1
  rw [e] at r1
  obtain ⟨a, dx, vs, rfl, h2, h3, h4⟩ := r1
  refine ⟨a, dx, _, rfl, a1.in_ _ _ h2, lookup_no hj, ?_⟩
  refine ha F0 H0 F1 H1 σ _ (S.step a1) ?_
  cases ma with
  | ok y =>
    intro ws F2 H2 a2 r2
    have k1 : KE K W F1 H1 σ Q (f (x, y)).noexc := k1
    have k1 := k1.adv a2
    refine ⟨F2, (x, y), a2.in_, by rw [List.append_nil]; exact ⟨_, ws, rfl, Rep.mono a2.f _ _ r1', r2⟩, ?_⟩
    revert k1
    generalize f (x, y) = z
    intro k1
    cases z with
    | ok z => exact k1
    | exc c => exact k1.elim
    | stuck => exact k1.elim
  | exc c => exact k1
  | stuck => exact k1.elim
/-- the heap without an object that a def changes -/
def hide (H : Hp) (p : Addr) : Hp := fun q => if q = p then none else H q
theorem hide_same {H : Hp} {p : Addr} : hide H p p = none := if_pos rfl
theorem hide_ne {H : Hp} {p q : Addr} (h : q ≠ p) : hide H p q = H q := if_neg h
theorem hide_ex {H : Hp} {p : Addr} : Ex (hide H p) H := fun a u q => by
  by_cases z : a = p
  · subst z; rw [hide_same] at q; cases q
  · rw [hide_ne z] at q; exact q
/-- the promise of an __init__ -/
def KIn (K : PySem.W.Frag) (F H : Hp) (p : Addr) (Q : VK) (E : XK) : Res α → Prop
  | .ok x => ∀ F' H', Adv F (hide H p) F' H' → Rep K F' (toD x) (.ref p) → Q .non H'
  | .exc c => ∀ F' H', Adv F (hide H p) F' H' → E (.ref (He.ga K c)) none H'
  | .stuck => False
def spI (K : PySem.W.Frag) (c : Str) {δ : Type} [ToDs δ] (f : δ → Res α) : Sp := fun vs H Q E => ∃ F y p dx ws, vs = .ref p :: ws ∧ Ex F H ∧ F p = none ∧ H p = some (.ins (He.ga K c) dx []) ∧ Reps K F (ToDs.ds y) ws ∧ KIn K F H p Q E (f y)
theorem ev_make {δ : Type} [ToDs δ] {ts : TA} {ma : Res δ} {c : Str} {f : δ → Res α} (ha : EvA K W env ts ma) : EvX K W env (tMakeQ (He.ga K c) (spI K c f) (WE W) ts) (ma.bind f) := fun F0 H0 F H σ Q S k => by
  refine ha F0 H0 F H σ _ S ?_
  cases ma with
  | ok y =>
    intro vs F1 H1 a1 r1 x dx nx ndx hne
    have k : KE K W F H σ Q (f y) := k
    have k := k.adv a1
    have ex1 : Ex H1 (hide (upd (upd H1 dx (.own x)) x (.ins (He.ga K c) dx [])) x) := fun a u q => by
      have z : a ≠ x := ne_of_none q nx
      rw [hide_ne z, upd_ne z, upd_ne (ne_of_none q ndx)]
      exact q
    have exF : Ex F1 (upd (upd H1 dx (.own x)) x (.ins (He.ga K c) dx [])) := fun a u q => hide_ex _ _ (ex1 _ _ (a1.in_ _ _ q))
    have ad : ∀ {F' H' : Hp}, Adv F1 (hide (upd (upd H1 dx (.own x)) x (.ins (He.ga K c) dx [])) x) F' H' → Adv F1 H1 F' H' := fun {F' H'} b =>
      ⟨b.f, ex1.trans b.h, b.in_, fun q h1 h2 => b.out q h1 (by
        cases e : H1 q with
        | none => exact absurd e h2
        | some o => rw [ex1 _ _ e]; simp)⟩
    refine ⟨F1, y, x, dx, vs, rfl, exF, none_of_ex a1.in_ nx, upd_same, r1, ?_⟩
    revert k
    generalize f y = z
    intro k
    cases z with
    | ok z => exact fun F' H' b r => ⟨rfl, k _ F' H' (ad b) r⟩
    | exc c => exact fun F' H' b => k F' H' (ad b)
    | stuck => exact k.elim
  | exc c => exact k
  | stuck => exact k.elim
/-- the end of an __init__ -/
theorem blk_finI {Q : VK} {x : τ} {p : Addr} {c : Str} {ks : List Str} {ds : List D} {i : Nat} (L : Lk K W F0 H0 (fun v H' => v = .ref p → Q .non H') PT KP) (hi : env[i]? = some (some (.oi (some p) c ks ds))) (hx : toD x = .obj c ks ds) : Blk K F0 H0 KP (fun _ H' => Q .non H') env (.ok x) := fun F H σ S h => by
  obtain ⟨v, e, q, dx, vs, rfl, h0, hf, hp, hl, hr, hpp⟩ := S.slot i _ hi
  have : q = p := hpp p rfl
  subst this
  obtain ⟨F', ex, S'⟩ := S.freezeI hi
  have hi' : i < env.length := by
    have := (List.getElem?_eq_some_iff.mp hi).1
    exact this
  obtain ⟨v2, e2, r2⟩ := S'.slot i (.im (.obj c ks ds)) (by rw [List.getElem?_set_self hi'])
  rw [e] at e2; cases e2
  exact L.ok x h (.ref q) F' H S'.adv (by rw [hx]; exact r2) rfl
end
section
variable {P : Program} {w : World} {K : PySem.W.Frag} {mg : Str → Option Value} {base : Heap} {x qual : Str} {params : Arguments} {body : List Stmt} {scope : Scope} {dvs : List V} {kws : List (Str × V)} {f : Addr} {fd : FuncData}
theorem sl_startI {K : PySem.W.Frag} {F H : Hp} {N : List Str} {ds : List D} {vs : List V} {p dx : Addr} {c : Str} {n0 : Str} (e : Ex F H) (hf : F p = none) (hp : H p = some (.ins (He.ga K c) dx [])) (r : Reps K F ds vs) :
    Sl K F (hide H p) F H (L2.start (n0 :: N) (.ref p :: vs)) (some (.oi (some p) c [] []) :: enStart N ds) := by
  have hl := r.length
  refine ⟨⟨Ex.refl F, hide_ex, e, fun q h _ => h⟩, fun i sk q => ?_, fun i j sk sk' a hij q q' o o' h1 => ?_, by simp [L2.start, enStart, hl]⟩
  · cases i with
    | zero =>
      simp at q; subst q
      exact ⟨.ref p, by simp [L2.start], p, dx, [], rfl, hide_same, hf, hp, rfl, rfl, fun a h => Option.some.inj h⟩
    | succ i =>
      have q : (enStart N ds)[i]? = some (some sk) := by simpa using q
      unfold enStart at q
      by_cases c : i < ds.length
      · rw [List.getElem?_append_left (by simpa using c), List.getElem?_map, List.getElem?_eq_getElem c] at q
        cases q
        obtain ⟨v, h1, h2⟩ := r.get (List.getElem?_eq_getElem c)
        refine ⟨v, ?_, h2⟩
        unfold L2.start
        rw [List.getElem?_append_left (by simp only [List.map_cons, List.length_cons, List.length_map]; omega), List.getElem?_map, List.getElem?_cons_succ, h1]; rfl
      · rw [List.getElem?_append_right (by simpa using c), List.getElem?_replicate] at q
        split at q <;> cases q
  · have im : ∀ (i : Nat) (sk : Sk), (some (Sk.oi (some p) c [] []) :: enStart N ds)[i]? = some (some sk) → sk.own = true → i = 0 := by
      intro i sk q o
      cases i with
      | zero => rfl
      | succ i =>
        have q : (enStart N ds)[i]? = some (some sk) := by simpa using q
        unfold enStart at q
        by_cases c : i < ds.length
        · rw [List.getElem?_append_left (by simpa using c), List.getElem?_map, List.getElem?_eq_getElem c] at q
          cases q; cases o
        · rw [List.getElem?_append_right (by simpa using c), List.getElem?_replicate] at q
          split at q <;> cases q
    exact absurd ((im i sk q o).trans (im j sk' q' o').symm) hij
theorem fn_okI {N ps : List Str} {n0 : Str} {k : Nat} {β τ : Type} [ToDs β] [ToD τ] {fM : β → Res τ} {c : Str} (F : FunD K x qual params body scope dvs kws f fd) (S : FnScope (n0 :: N) ps scope) (hl : ∀ y : β, (ToDs.ds y).length + 1 = ps.length)
    (hbody : ∀ (cdv : Value) (A : Around) (outer : List Env) (s : Shared) (H : Hp) (E : XK), Room k (A.deeper (PyProof.Rows.envOfC qual scope s.heap.objs.size f cdv)) →
      ∃ t, PSs (cxOf (L2.CX P w) P w K mg base (n0 :: N) qual scope f cdv A outer s H E) body t ∧
        ∀ (y : β) (p : Addr) (F0 H0 : Hp) (Q : VK) (KP : Res τ → Prop), Lk K (fun cls d _ H => E cls d H) F0 H0 (fun v H' => v = .ref p → Q .non H') (fun _ => True) KP → Blk K F0 H0 KP (t { nx := fun _ H' => Q .non H', rt := Q }) (some (.oi (some p) c [] []) :: enStart N (ToDs.ds y)) (fM y)) :
    FnOk P w K mg base (L2.CX P w) (k + 1) f fd ps (spI K c fM) := by
  refine F.ok S (fun vs H Q E h => ?_) (fun cdv A outer s H vs Q E hr h => ?_)
  · obtain ⟨F, y, p, dx, ws, rfl, _, _, _, r, _⟩ := h
    rw [← hl y, List.length_cons, ← r.length]
  · obtain ⟨t, h1, h2⟩ := hbody cdv A outer s H E hr
    refine ⟨t, h1, ?_⟩
    obtain ⟨F, y, p, dx, ws, rfl, e, hf, hp, r, q⟩ := h
    refine h2 y p F (hide H p) Q (fun r => KIn K F H p Q E r) ⟨fun z h v F' H' a r z => ?_, fun c F' H' σ env h _ S' => h F' H' S'.adv, fun z => z⟩ F H _ (sl_startI e hf hp r) q
    subst z
    exact h F' H' a r
end
end Mi
namespace Mi
open PySem PySem.Spec L2
open Evl (Ex)
structure T5 (α β γ δ ε : Type) where
  a : α
  b : β
  c : γ
  e : δ
  f : ε
structure T6 (α β γ δ ε ζ : Type) where
  a : α
  b : β
  c : γ
  e : δ
  f : ε
  g : ζ
structure T8 (α β γ δ ε ζ η θ : Type) where
  a : α
  b : β
  c : γ
  e : δ
  f : ε
  g : ζ
  h : η
  i : θ
instance {α β γ δ ε : Type} [ToD α] [ToD β] [ToD γ] [ToD δ] [ToD ε] : ToD (T5 α β γ δ ε) := ⟨fun x => .tup [ToD.d x.a, ToD.d x.b, ToD.d x.c, ToD.d x.e, ToD.d x.f]⟩
instance {α β γ δ ε ζ : Type} [ToD α] [ToD β] [ToD γ] [ToD δ] [ToD ε] [ToD ζ] : ToD (T6 α β γ δ ε ζ) := ⟨fun x => .tup [ToD.d x.a, ToD.d x.b, ToD.d x.c, ToD.d x.e, ToD.d x.f, ToD.d x.g]⟩
instance {α β γ δ ε ζ η θ : Type} [ToD α] [ToD β] [ToD γ] [ToD δ] [ToD ε] [ToD ζ] [ToD η] [ToD θ] : ToD (T8 α β γ δ ε ζ η θ) := ⟨fun x => .tup [ToD.d x.a, ToD.d x.b, ToD.d x.c, ToD.d x.e, ToD.d x.f, ToD.d x.g, ToD.d x.h, ToD.d x.i]⟩
def optGet {α : Type} : Option α → Res α
  | some x => .ok x
  | none => .stuck
theorem optGet_ok {α : Type} [ToD α] : ∀ (x : Option α) (y : α), optGet x = .ok y → toD y = toD x
  | some x, y, h => by cases h; rfl
  | none, y, h => by cases h
theorem optGet_x {α : Type} : ∀ (x : Option α) (c : Str), optGet x ≠ .exc c
  | some x, c, h => by cases h
  | none, c, h => by cases h
def D.asT1 : D → Res (T1 D)
  | .tup [a] => .ok ⟨a⟩
  | _ => .stuck
def D.asT2 : D → Res (T2 D D)
  | .tup [a, b] => .ok ⟨a, b⟩
  | _ => .stuck
def D.asT3 : D → Res (T3 D D D)
  | .tup [a, b, c] => .ok ⟨a, b, c⟩
  | _ => .stuck
theorem asT1_ok : ∀ (x : D) (y : T1 D), x.asT1 = .ok y → toD y = x := by
  intro x y h
  unfold D.asT1 at h
  split at h
  · cases h; rfl
  · cases h
theorem asT2_ok : ∀ (x : D) (y : T2 D D), x.asT2 = .ok y → toD y = x := by
  intro x y h
  unfold D.asT2 at h
  split at h
  · cases h; rfl
  · cases h
theorem asT3_ok : ∀ (x : D) (y : T3 D D D), x.asT3 = .ok y → toD y = x := by
  intro x y h
  unfold D.asT3 at h
  split at h
  · cases h; rfl
  · cases h
theorem asT1_x (x : D) (c : Str) : x.asT1 ≠ .exc c := by intro h; unfold D.asT1 at h; split at h <;> cases h
theorem asT2_x (x : D) (c : Str) : x.asT2 ≠ .exc c := by intro h; unfold D.asT2 at h; split at h <;> cases h
theorem asT3_x (x : D) (c : Str) : x.asT3 ≠ .exc c := by intro h; unfold D.asT3 at h; split at h <;> cases h
def D.lenR : D → Res Int
  | .tup xs => .ok (xs.length : Int)
  | .lst xs => .ok (xs.length : Int)
  | _ => .stuck
section
variable {K : PySem.W.Frag} {W : WX} {F0 H0 F H F' H' F1 : Hp} {rt : VK} {PT : En → Prop} {env env' : En} {α β γ τ : Type} [ToD α] [ToD β] [ToD γ] [ToD τ] {KP : Res τ → Prop} {te ta tb tc : TE} {tt : TT} {Z : Ends} {t u : TS} {T : L2.St → Hp → Prop} {σ : L2.St}
theorem ev_castG {m : Res α} {f : α → Res β} (hf : ∀ x y, f x = .ok y → toD y = toD x) (hx : ∀ x c, f x ≠ .exc c) (h : EvX K W env te m) : EvX K W env te (m.bind f) := fun F0 H0 F H σ Q S k => by
  refine h F0 H0 F H σ _ S ?_
  cases m with
  | ok x =>
    intro v F1 H1 a r
    have k : KE K W F H σ Q (f x) := k
    cases e : f x with
    | ok y => rw [e] at k; exact k v F1 H1 a (by rw [hf x y e]; exact r)
    | exc c => exact absurd e (hx x c)
    | stuck => rw [e] at k; exact k.elim
  | exc c => exact k
  | stuck => exact k.elim
theorem ev_lenD {m : Res D} (h : EvX K W env te m) : EvX K W env (tCB (rLenS K) (tCons te tNil)) (m.bind fun x => D.lenR x) := fun F0 H0 F H σ Q S k => by
  refine h F0 H0 F H σ _ S (KE.cut S.ex k fun x v F1 H1 e1 a1 r1 k1 => ?_)
  have k1 : KE K W F1 H1 σ Q (D.lenR x) := k1
  cases x with
  | tup xs =>
    obtain ⟨a, vs, rfl, h2, h3⟩ := r1
    refine ⟨a, vs, rfl, .inr (Evl.ex_t a1.in_ h2), ?_⟩
    have := k1 (.int xs.length) F1 H1 (Adv.refl a1.in_) rfl
    rw [← h3.length]; exact this
  | lst xs =>
    obtain ⟨a, vs, rfl, h2, h3⟩ := r1
    refine ⟨a, vs, rfl, .inl (sq_ex a1.in_ h2), ?_⟩
    have := k1 (.int xs.length) F1 H1 (Adv.refl a1.in_) rfl
    rw [← h3.length]; exact this
  | _ => exact k1.elim
theorem cx_lenTu : CrX K (rLenS K) (fun (p : Tu α × Unit) => .ok (p.1.xs.length : Int)) := fun F H x vs Q e r k => by
  obtain ⟨v, rs, rfl, r1, r2⟩ := r
  cases (show rs = [] from r2)
  obtain ⟨a, ws, rfl, h2, h3⟩ := r1
  refine ⟨a, ws, rfl, .inr (Evl.ex_t e h2), ?_⟩
  have := k (.int x.1.xs.length) F H (Adv.refl e) rfl
  rw [← h3.length, List.length_map]; exact this
end
end Mi
set_option maxHeartbeats 1000000
namespace Mi
open PySem PySem.Spec L2
open Evl (Ex)
def CPowX (i j : Int) : Prop := 0 ≤ j ∧ (Builtin.Int.intBits i : Int) * j ≤ 2 ^ 27
theorem op_powX {X : Cx} : OpR X (binaryOp .Pow) (rI CPowX fun i j => .int (i ^ j.toNat)) := opI fun _ _ _ _ _ _ _ hc q => PyProof.Rows.pow_int hc.1 hc.2 q
end Mi
namespace Mi
open PySem PySem.Spec L2
/-- a promise of nothing -/
theorem fnok_stuck {P : Program} {w : World} {K : PySem.W.Frag} {mg : Str → Option Value} {base : Heap} {k : Nat} {f : Addr} {fd : FuncData} {ps : List Str} {β τ : Type} [ToDs β] [ToD τ] (fM : β → Res τ) (h : ∀ y, fM y = .stuck) : FnOk P w K mg base (L2.CX P w) k f fd ps (spM K fM) := by
  have no : ∀ vs H Q E, ¬ spM K fM vs H Q E := by
    rintro vs H Q E ⟨F, x, _, _, q⟩
    rw [h x] at q
    exact q
  exact ⟨fun vs H Q E q => absurd q (no _ _ _ _), fun A outer s H args us vs Q E _ _ _ _ q => absurd q (no _ _ _ _)⟩
end Mi
set_option maxHeartbeats 1000000
namespace Mi
open PySem PySem.Spec L2
open Evl (Ex)
structure T7 (α β γ δ ε ζ η : Type) where
  a : α
  b : β
  c : γ
  e : δ
  f : ε
  g : ζ
  h : η
instance {α β γ δ ε ζ η : Type} [ToD α] [ToD β] [ToD γ] [ToD δ] [ToD ε] [ToD ζ] [ToD η] : ToD (T7 α β γ δ ε ζ η) := ⟨fun x => .tup [ToD.d x.a, ToD.d x.b, ToD.d x.c, ToD.d x.e, ToD.d x.f, ToD.d x.g, ToD.d x.h]⟩

/-! ### the module's constants -/
def tupB (K : PySem.W.Frag) (a : Addr) : Option (List Value) := match K.lookup a with
  | some o => match o.data with
    | .seq its n => if o.cls = .type "tuple" ∧ its.size ≤ sizeLine then some its.toList else none
    | _ => none
  | none => none
mutual
def repB (K : PySem.W.Frag) : D → Value → Bool
  | .non, u => decide (u = .none)
  | .bl b, u => decide (u = .bool b)
  | .int i, .int j _ => decide (j = i)
  | .str s, .str z _ => decide (z = s)
  | .ty n, u => decide (u = .type n)
  | .tup ds, .ref a => (match tupB K a with
    | some us => repsB K ds us
    | none => false)
  | _, _ => false
def repsB (K : PySem.W.Frag) : List D → List Value → Bool
  | [], us => us.isEmpty
  | d :: ds, u :: us => repB K d u && repsB K ds us
  | _ :: _, [] => false
end
theorem tupB_ok {K : PySem.W.Frag} {a : Addr} {us : List Value} (h : tupB K a = some us) {xs : List V} (r : Vals xs us) (F : Hp) : SqT K F a xs := by
  unfold tupB at h
  split at h
  · rename_i o e
    split at h
    · rename_i its n ed
      split at h
      · rename_i hc
        cases h
        exact .inr ⟨o, its, n, e, hc.1, ed, hc.2, r⟩
      · cases h
    · cases h
  · cases h
mutual
theorem repB_ok {K : PySem.W.Frag} : ∀ (d : D) (u : Value), repB K d u = true → ∃ v, RelV v u ∧ ∀ F, Rep K F d v
  | .non, u, h => ⟨.non, (of_decide_eq_true (show decide (u = Value.none) = true from h) : u = Value.none), fun _ => rfl⟩
  | .bl b, u, h => ⟨.bl b, (of_decide_eq_true (show decide (u = Value.bool b) = true from h) : u = Value.bool b), fun _ => rfl⟩
  | .ty n, u, h => ⟨.ty n, (of_decide_eq_true (show decide (u = Value.type n) = true from h) : u = Value.type n), fun _ => rfl⟩
  | .int i, u, h => by
    cases u with
    | int j t => exact ⟨.int i, ⟨t, by rw [of_decide_eq_true (show decide (j = i) = true from h)]⟩, fun _ => rfl⟩
    | _ => cases h
  | .str s, u, h => by
    cases u with
    | str z t => exact ⟨.str s, ⟨t, by rw [of_decide_eq_true (show decide (z = s) = true from h)]⟩, fun _ => rfl⟩
    | _ => cases h
  | .tup ds, u, h => by
    cases u with
    | ref a =>
      rw [repB] at h
      split at h
      · rename_i us e
        obtain ⟨xs, r, hr⟩ := repsB_ok ds us h
        exact ⟨.ref a, rfl, fun F => ⟨a, xs, rfl, tupB_ok e r F, hr F⟩⟩
      · cases h
    | _ => cases h
  | .lst ds, u, h => by cases u <;> cases h
  | .obj c ks ds, u, h => by cases u <;> cases h
  | .ro ds, u, h => by cases u <;> cases h
  | .dct ks ds, u, h => by cases u <;> cases h
theorem repsB_ok {K : PySem.W.Frag} : ∀ (ds : List D) (us : List Value), repsB K ds us = true → ∃ xs, Vals xs us ∧ ∀ F, Reps K F ds xs
  | [], us, h => by
    cases us with
    | nil => exact ⟨[], .nil, fun _ => rfl⟩
    | cons u us => cases h
  | d :: ds, us, h => by
    cases us with
    | nil => cases h
    | cons u us =>
      rw [repsB] at h
      obtain ⟨h1, h2⟩ := He.ba h
      obtain ⟨v, r, hv⟩ := repB_ok d u h1
      obtain ⟨xs, rs, hx⟩ := repsB_ok ds us h2
      exact ⟨v :: xs, .cons r rs, fun F => ⟨v, xs, rfl, hv F, hx F⟩⟩
end
def conB (K : PySem.W.Frag) (cs : List (Str × D)) : Bool := cs.all fun c => match PySem.W.nsIn K mainGlobals c.1 with
  | some (some u) => repB K c.2 u
  | _ => false
/-- a name of the module that stands for data -/
def ConF (K : PySem.W.Frag) (mg : Str → Option Value) (x : Str) (d : D) : Prop := ∃ u v, mg x = some u ∧ RelV v u ∧ ∀ F, Rep K F d v
theorem con_of {K : PySem.W.Frag} {h : Heap} {mg : Str → Option Value} {cs : List (Str × D)} (X : K.In h) (G : h.Ns mainGlobals mg) (c : conB K cs = true) {x : Str} {d : D} (m : (x, d) ∈ cs) : ConF K mg x d := by
  have q := List.all_eq_true.mp c _ m
  dsimp only at q
  split at q
  · rename_i u e
    obtain ⟨v, r, hv⟩ := repB_ok d u q
    exact ⟨u, v, PySem.W.mg_of X G e, r, hv⟩
  · cases q
section
variable {K : PySem.W.Frag} {mg : Str → Option Value} {x : Str} {d : D}
noncomputable def ConF.u (h : ConF K mg x d) : Value := h.choose
noncomputable def ConF.v (h : ConF K mg x d) : V := h.choose_spec.choose
theorem ConF.m (h : ConF K mg x d) : mg x = some h.u := h.choose_spec.choose_spec.1
theorem ConF.r (h : ConF K mg x d) : RelV h.v h.u := h.choose_spec.choose_spec.2.1
theorem ConF.p (h : ConF K mg x d) (F : Hp) : Rep K F d h.v := h.choose_spec.choose_spec.2.2 F
theorem ev_con {α : Type} [ToD α] {W : WX} {env : En} {z : α} (h : ConF K mg x (toD z)) : EvX K W env (tC h.v) (.ok z) := fun F0 H0 F H σ Q S k => k _ F H (Adv.refl S.ex) (h.p F)
end
/-! ### is True, is False -/
theorem opx_isB {K : PySem.W.Frag} : OpX K rIsB (fun (i j : Bool) => .ok (decide (i = j))) := fun F H x y v u Q e h1 h2 k => by
  cases (show v = V.bl x from h1); cases (show u = V.bl y from h2)
  exact ⟨x, y, rfl, rfl, k _ F H (Adv.refl e) rfl⟩
theorem opx_notB {K : PySem.W.Frag} : OpX K rNotB (fun (i j : Bool) => .ok (!decide (i = j))) := fun F H x y v u Q e h1 h2 k => by
  cases (show v = V.bl x from h1); cases (show u = V.bl y from h2)
  exact ⟨x, y, rfl, rfl, k _ F H (Adv.refl e) rfl⟩
theorem ev_isET3 {K : PySem.W.Frag} {W : WX} {env : En} {cs : List Str} {sub : Str → Str → Bool} {c x y z : Str} {i : Nat} {a : Addr} (C : Cls K cs sub) (hc : c ∈ cs) (hx : x ∈ cs) (hy : y ∈ cs) (hz : z ∈ cs) (h : env[i]? = some (some (.raw (.ref a)))) :
    EvX K W env (tCB (rIsET K a (.ref (He.ga K c)) none) (tCons (tVar i) (tCons (tTup (tCons (tC (.ref (He.ga K x))) (tCons (tC (.ref (He.ga K y))) (tCons (tC (.ref (He.ga K z))) tNil)))) tNil))) (.ok ([x, y, z].any (sub c))) := fun F0 H0 F H σ Q S k => by
  obtain ⟨v, e, q⟩ := S.slot i _ h
  cases (show v = V.ref a from q)
  refine ⟨_, e, by show 3 ≤ sizeLine; decide, fun p hp => ?_⟩
  have a2 : Adv F H (upd F p (.tup [.ref (He.ga K x), .ref (He.ga K y), .ref (He.ga K z)])) (upd H p (.tup [.ref (He.ga K x), .ref (He.ga K y), .ref (He.ga K z)])) := Adv.new S.ex hp
  refine ⟨He.ga K c, p, [.ref (He.ga K x), .ref (He.ga K y), .ref (He.ga K z)], [.ref (He.ga K x), .ref (He.ga K y), .ref (He.ga K z)], [x, y, z].any (sub c), rfl, rfl, C.exc c hc, rfl, upd_same, (.cons (.own _) (.cons (.own _) (.cons (.own _) .nil))), ?_, k _ _ _ a2 rfl⟩
  exact kit_any C hc (xs := [x, y, z]) (by simp [hx, hy, hz])
theorem ev_isET4 {K : PySem.W.Frag} {W : WX} {env : En} {cs : List Str} {sub : Str → Str → Bool} {c x y z w : Str} {i : Nat} {a : Addr} (C : Cls K cs sub) (hc : c ∈ cs) (hx : x ∈ cs) (hy : y ∈ cs) (hz : z ∈ cs) (hw : w ∈ cs) (h : env[i]? = some (some (.raw (.ref a)))) :
    EvX K W env (tCB (rIsET K a (.ref (He.ga K c)) none) (tCons (tVar i) (tCons (tTup (tCons (tC (.ref (He.ga K x))) (tCons (tC (.ref (He.ga K y))) (tCons (tC (.ref (He.ga K z))) (tCons (tC (.ref (He.ga K w))) tNil))))) tNil))) (.ok ([x, y, z, w].any (sub c))) := fun F0 H0 F H σ Q S k => by
  obtain ⟨v, e, q⟩ := S.slot i _ h
  cases (show v = V.ref a from q)
  refine ⟨_, e, by show 4 ≤ sizeLine; decide, fun p hp => ?_⟩
  have a2 : Adv F H (upd F p (.tup [.ref (He.ga K x), .ref (He.ga K y), .ref (He.ga K z), .ref (He.ga K w)])) (upd H p (.tup [.ref (He.ga K x), .ref (He.ga K y), .ref (He.ga K z), .ref (He.ga K w)])) := Adv.new S.ex hp
  refine ⟨He.ga K c, p, [.ref (He.ga K x), .ref (He.ga K y), .ref (He.ga K z), .ref (He.ga K w)], [.ref (He.ga K x), .ref (He.ga K y), .ref (He.ga K z), .ref (He.ga K w)], [x, y, z, w].any (sub c), rfl, rfl, C.exc c hc, rfl, upd_same, (.cons (.own _) (.cons (.own _) (.cons (.own _) (.cons (.own _) .nil)))), ?_, k _ _ _ a2 rfl⟩
  exact kit_any C hc (xs := [x, y, z, w]) (by simp [hx, hy, hz, hw])
/-! ### lists that are only read -/
section
variable {K : PySem.W.Frag} {W : WX} {F0 H0 F H F' H' F1 : Hp} {env : En} {α β γ : Type} [ToD α] [ToD β] [ToD γ] {te ta tb : TE}
theorem opx_ixR : OpX K (rIxL K) (fun (xs : Ro α) (i : Int) => idx xs.xs i) := fun F H xs i v u Q e h1 h2 k => by
  obtain ⟨a, vs, rfl, hl, hr⟩ := h1
  cases (show u = V.int i from h2)
  dsimp only [idx] at k
  cases q : atI xs.xs i with
  | none => rw [q] at k; exact k.elim
  | some x =>
    rw [q] at k
    obtain ⟨w, hw, rw_⟩ := Reps.at (i := i) hr (x := toD x) (by rw [atI_map, q]; rfl)
    exact ⟨a, vs, i, w, rfl, rfl, Evl.ex_l e hl, hw, k _ F H (Adv.refl e) rw_⟩
theorem cx_lenRo : CrX K (rLenS K) (fun (p : Ro α × Unit) => .ok (p.1.xs.length : Int)) := fun F H x vs Q e r k => by
  obtain ⟨v, rs, rfl, r1, r2⟩ := r
  cases (show rs = [] from r2)
  obtain ⟨a, ws, rfl, hl, hr⟩ := r1
  refine ⟨a, ws, rfl, .inl (Evl.ex_l e hl), ?_⟩
  have := k (.int (x.1.xs.length : Int)) F H (Adv.refl e) rfl
  have l := hr.length
  rw [List.length_map] at l
  rw [← l]; exact this
theorem ei_ro {m : Res (Ro α)} (h : EvX K W env te m) : EvI K W env (iList K te) (m.bind fun x => .ok x.xs) := fun F0 H0 F H σ R S k => by
  refine h F0 H0 F H σ _ S ?_
  cases m with
  | ok x =>
    intro v F1 H1 a r
    obtain ⟨p, vs, rfl, h1, h2⟩ := r
    exact ⟨p, rfl, ⟨vs, Evl.ex_l a.in_ h1⟩, k _ F1 H1 a (js_list h1 h2)⟩
  | exc c => exact k
  | stuck => exact k.elim
theorem en_listR {m : Res (Ro α)} (h : EvX K W env te m) : EvN K W env (tCB (fun xs H Q => ∃ p ys, xs = [V.ref p] ∧ (SqL K H p ys ∨ SqT K H p ys) ∧ ∀ l, H l = none → Q (.ref l) (upd H l (.lst ys))) (tCons te tNil)) (m.bind fun x => .ok x.xs) := fun F0 H0 F H σ Q S k => by
  refine h F0 H0 F H σ _ S ?_
  cases m with
  | ok x =>
    intro v F1 H1 a r
    obtain ⟨p, vs, rfl, h1, h2⟩ := r
    exact ⟨p, vs, rfl, .inl (Evl.ex_l a.in_ h1), fun l hl => k l vs F1 _ (a.trans (Adv.newO a.in_ hl)) (Evl.fresh_back a.h hl) (none_of_ex a.in_ hl) upd_same h2⟩
  | exc c => exact k
  | stuck => exact k.elim
/-! ### joined and repeated lists -/
theorem en_cat {m1 m2 : Res (List α)} (ha : EvX K W env ta m1) (hb : EvX K W env tb m2) : EvN K W env (tOp rCat ta tb) (m1.bind fun x => m2.bind fun y => .need (x.length + y.length ≤ 16777216) (.ok (x ++ y))) := fun F0 H0 F H σ Q S k => by
  refine ha F0 H0 F H σ _ S ?_
  cases m1 with
  | ok x =>
    intro v F1 H1 a1 r1
    refine hb F0 H0 F1 H1 σ _ (S.step a1) ?_
    cases m2 with
    | ok y =>
      intro u F2 H2 a2 r2
      have k : KN K W F H σ Q (Res.need (x.length + y.length ≤ 16777216) (.ok (x ++ y))) := k
      by_cases c : x.length + y.length ≤ 16777216
      · rw [Res.need_pos c] at k
        obtain ⟨p, vs, rfl, h1, h2⟩ := r1
        obtain ⟨q, ws, rfl, g1, g2⟩ := r2
        have l1 := h2.length
        have l2 := g2.length
        rw [List.length_map] at l1 l2
        refine ⟨p, q, vs, ws, rfl, rfl, a2.h _ _ (a1.in_ _ _ h1), a2.in_ _ _ g1, ?_, fun z hz => ?_⟩
        · rw [← l1, ← l2]; exact c
        · refine k z (vs ++ ws) F2 _ ((a1.trans a2).trans (Adv.newO a2.in_ hz)) (Evl.fresh_back (a1.trans a2).h hz) (none_of_ex a2.in_ hz) upd_same ?_
          rw [List.map_append]
          exact Reps.append (Reps.mono a2.f _ _ h2) g2
      · rw [Res.need_neg c] at k; exact k.elim
    | exc c => exact fun F2 H2 a2 => k F2 H2 (a1.trans a2)
    | stuck => exact k.elim
  | exc c => exact k
  | stuck => exact k.elim
theorem Reps.flat {xs : List D} {vs : List V} (h : Reps K F xs vs) : ∀ n : Nat, Reps K F (List.replicate n xs).flatten (List.replicate n vs).flatten
  | 0 => rfl
  | n + 1 => by
    rw [List.replicate_succ, List.replicate_succ, List.flatten_cons, List.flatten_cons]
    exact Reps.append h (Reps.flat h n)
def RepOk (n : Nat) (k : Int) : Prop := -(2 ^ 63) ≤ k ∧ k < 2 ^ 63 ∧ n * k.toNat ≤ 16777216
theorem en_rep {m1 : Res (List α)} {m2 : Res Int} (ha : EvX K W env ta m1) (hb : EvX K W env tb m2) : EvN K W env (tOp rRep ta tb) (m1.bind fun x => m2.bind fun y => .need (RepOk x.length y) (.ok (List.replicate y.toNat x).flatten)) := fun F0 H0 F H σ Q S k => by
  refine ha F0 H0 F H σ _ S ?_
  cases m1 with
  | ok x =>
    intro v F1 H1 a1 r1
    refine hb F0 H0 F1 H1 σ _ (S.step a1) ?_
    cases m2 with
    | ok y =>
      intro u F2 H2 a2 r2
      have k : KN K W F H σ Q (Res.need (RepOk x.length y) (.ok (List.replicate y.toNat x).flatten)) := k
      by_cases c : RepOk x.length y
      · rw [Res.need_pos c] at k
        obtain ⟨p, vs, rfl, h1, h2⟩ := r1
        cases (show u = V.int y from r2)
        have l1 := h2.length
        rw [List.length_map] at l1
        refine ⟨p, y, vs, rfl, rfl, a2.h _ _ (a1.in_ _ _ h1), c.1, c.2.1, ?_, fun z hz => ?_⟩
        · rw [← l1]; exact c.2.2
        · refine k z _ F2 _ ((a1.trans a2).trans (Adv.newO a2.in_ hz)) (Evl.fresh_back (a1.trans a2).h hz) (none_of_ex a2.in_ hz) upd_same ?_
          have := Reps.flat h2 y.toNat
          rw [List.map_flatten, List.map_replicate]
          exact Reps.mono a2.f _ _ this
      · rw [Res.need_neg c] at k; exact k.elim
    | exc c => exact fun F2 H2 a2 => k F2 H2 (a1.trans a2)
    | stuck => exact k.elim
  | exc c => exact k
  | stuck => exact k.elim
theorem rep1 {α : Type} (x : α) (n : Nat) : (List.replicate n [x]).flatten = List.replicate n x := by
  induction n with
  | zero => rfl
  | succ n ih => rw [List.replicate_succ, List.flatten_cons, ih, List.replicate_succ]; rfl
end
end Mi
set_option maxHeartbeats 1000000
namespace Mi
open PySem PySem.Spec L2 PyProof.Rows
open Evl (Ex)
/-! ### xs[i] += e -/
def rGetL : V → V → Hp → VK → Prop := fun o i H Q => ∃ p xs k v, o = .ref p ∧ i = .int k ∧ H p = some (.lst xs) ∧ 0 ≤ k ∧ xs[k.toNat]? = some v ∧ Q v H
theorem pget_list {X : Cx} : PGet X rGetL := by
  intro pins s σ H o i ov iv Q I ro ri h
  obtain ⟨p, xs, k, z, rfl, rfl, hp, h0, hz, q⟩ := h
  cases ro
  obtain ⟨t, rfl⟩ := ri
  obtain ⟨its, r, pl, hs⟩ := I.list (show SqL X.K H p xs from Or.inl (Or.inl hp))
  obtain ⟨w, ew, rw'⟩ := r.get hz
  have hl := r.length
  have hn := line63
  have hlt : k.toNat < xs.length := (List.getElem?_eq_some_iff.mp hz).1
  exact getItem_listL pl.isList h0 (by omega) ew ⟨z, H, I, rw', q⟩
section
variable {K : PySem.W.Frag} {W : WX} {F0 H0 F H F' H' F1 : Hp} {rt : VK} {PT : En → Prop} {env env' : En} {τ : Type} [ToD τ] {KP : Res τ → Prop} {te ta tb tc : TE} {Z : Ends}
theorem blk_augI {i : Nat} {xs : List Int} {m mi : Res Int} {f : List Int → Res τ} {g : Int → Int → Int} (L : Lk K W F0 H0 rt PT KP) (hT : PT env) (hx : env[i]? = some (some (.ow (xs.map toD)))) (hi : EvX K W env tb mi) (he : EvX K W env te m)
    (k : ∀ ys : List Int, Blk K F0 H0 KP Z.nx (env.set i (some (.ow (ys.map toD)))) (f ys)) :
    Blk K F0 H0 KP (tAugS (tVar i) tb te rGetL (ipI g) rSetL Z) env (mi.bind fun j => .need (0 ≤ j) (match xs[j.toNat]? with | some x => m.bind fun y => f (xs.set j.toNat (g x y)) | none => .stuck)) := fun F H σ S h => by
  obtain ⟨v, e, p, vs, rfl, h0, hf, hp, hr⟩ := S.slot i _ hx
  refine ⟨_, e, ?_⟩
  refine hi F0 H0 F H σ _ S (L.ke hT S h fun j w F1 H1 e1 a1 r1 h1 => ?_)
  cases (show w = V.int j from r1)
  have hl : vs.length = xs.length := by rw [← hr.length, List.length_map]
  by_cases c : 0 ≤ j
  · rw [Res.need_pos c] at h1
    cases q : xs[j.toNat]? with
    | none => rw [q] at h1; exact (L.no h1).elim
    | some x =>
      rw [q] at h1
      have hr1 := Reps.mono a1.f _ _ hr
      obtain ⟨z, hz, rz⟩ := Reps.get hr1 (i := j.toNat) (e := D.int x) (by rw [List.getElem?_map, q]; rfl)
      cases (show z = V.int x from rz)
      refine ⟨p, vs, j, _, rfl, rfl, a1.h _ _ hp, c, hz, ?_⟩
      refine he F0 H0 F1 H1 σ _ (S.step a1) (L.ke hT (S.step a1) h1 fun y u F2 H2 e2 a2 r2 h2 => ?_)
      cases (show u = V.int y from r2)
      have ha := a1.trans a2
      have hj : ixN vs.length j = some j.toNat := by
        have := (List.getElem?_eq_some_iff.mp q).1
        unfold ixN
        rw [if_pos c, if_pos (by rw [hl]; omega)]
      refine ⟨x, y, rfl, rfl, p, vs, j, j.toNat, rfl, rfl, ha.h _ _ hp, hj, ?_⟩
      refine k (xs.set j.toNat (g x y)) F2 _ σ ((S.step ha).chg hx e (ha.out p hf (by rw [hp]; simp)) h0 ?_) h2
      rw [List.map_set]
      exact Reps.set j.toNat (Reps.mono ha.f _ _ hr) rfl
  · rw [Res.need_neg c] at h1; exact (L.no h1).elim
end
theorem cr_fld {X : Cx} {K : PySem.W.Frag} {e : Expr} {ta : TE} {f : Str} {pos : Pos} (h : X.K = K) (he : PE X e ta) (hb : attributeBase e f X.env (eval e X.env) = eval e X.env) : PE X (.Attribute e f pos) (tFld K ta f) := by
  subst h; exact pe_fld he hb
end Mi
set_option maxHeartbeats 1000000
namespace Mi
open PySem PySem.Spec L2
open Evl (Ex)
section
variable {K : PySem.W.Frag}
/-! ### x in a list or tuple of ints, of texts -/
theorem flat_intV : ∀ ns : List Int, (ns.map V.int).all flatV = true
  | [] => rfl
  | n :: ns => by rw [List.map_cons, List.all_cons, flat_intV ns]; rfl
theorem flat_strV : ∀ ns : List Str, (ns.map V.str).all flatV = true
  | [] => rfl
  | n :: ns => by rw [List.map_cons, List.all_cons, flat_strV ns]; rfl
theorem in_intV (x : Int) : ∀ ns : List Int, inV (.int x) (ns.map V.int) = decide (x ∈ ns)
  | [] => by simp [inV]
  | n :: ns => by
    have ih := in_intV x ns
    unfold inV at ih ⊢
    rw [List.map_cons, List.any_cons, ih]
    by_cases h : x = n
    · subst h; simp [eqV]
    · have : (n == x) = false := by simp; exact fun z => h z.symm
      simp [eqV, h, this]
theorem in_strV (x : Str) : ∀ ns : List Str, inV (.str x) (ns.map V.str) = decide (x ∈ ns)
  | [] => by simp [inV]
  | n :: ns => by
    have ih := in_strV x ns
    unfold inV at ih ⊢
    rw [List.map_cons, List.any_cons, ih]
    by_cases h : x = n
    · subst h; simp [eqV]
    · have : (n == x) = false := by simp; exact fun z => h z.symm
      simp [eqV, h, this]
/-- what holds items -/
class Holds (σ : Type) (α : Type) [ToD α] [ToD σ] where
  xs : σ → List α
  at_ : ∀ (K : PySem.W.Frag) (F H : Hp) (y : σ) (u : V), Ex F H → Rep K F (toD y) u → ∃ p vs, u = .ref p ∧ (SqL K H p vs ∨ SqT K H p vs) ∧ Reps K F ((xs y).map toD) vs
instance {α : Type} [ToD α] : Holds (List α) α := ⟨fun x => x, fun K F H y u e h => by
  obtain ⟨a, vs, rfl, hl, hr⟩ := h
  exact ⟨a, vs, rfl, .inl (sq_ex e hl), hr⟩⟩
instance {α : Type} [ToD α] : Holds (Ro α) α := ⟨fun x => x.xs, fun K F H y u e h => by
  obtain ⟨a, vs, rfl, hl, hr⟩ := h
  exact ⟨a, vs, rfl, .inl (Evl.ex_l e hl), hr⟩⟩
instance {α : Type} [ToD α] : Holds (Tu α) α := ⟨fun x => x.xs, fun K F H y u e h => by
  obtain ⟨a, vs, rfl, hl, hr⟩ := h
  exact ⟨a, vs, rfl, .inr (Evl.ex_t e hl), hr⟩⟩
theorem opx_inI {σ : Type} [ToD σ] [Hd : Holds σ Int] (neg : Bool) : OpX K (rIn K neg) (fun (x : Int) (ys : σ) => .ok (if neg then !decide (x ∈ Hd.xs ys) else decide (x ∈ Hd.xs ys))) := fun F H x y v u Q e h1 h2 k => by
  obtain ⟨p, vs, rfl, hq, hr⟩ := Hd.at_ K F H y u e h2
  cases (show v = V.int x from h1)
  have hr : Reps K F ((Hd.xs y).map D.int) vs := hr
  have q := hr.ints
  subst q
  refine ⟨p, _, rfl, hq, rfl, flat_intV _, ?_⟩
  rw [in_intV]
  exact k _ F H (Adv.refl e) rfl
theorem opx_inS {σ : Type} [ToD σ] [Hd : Holds σ Str] (neg : Bool) : OpX K (rIn K neg) (fun (x : Str) (ys : σ) => .ok (if neg then !decide (x ∈ Hd.xs ys) else decide (x ∈ Hd.xs ys))) := fun F H x y v u Q e h1 h2 k => by
  obtain ⟨p, vs, rfl, hq, hr⟩ := Hd.at_ K F H y u e h2
  cases (show v = V.str x from h1)
  have hr : Reps K F ((Hd.xs y).map D.str) vs := hr
  have q := hr.strs
  subst q
  refine ⟨p, _, rfl, hq, rfl, flat_strV _, ?_⟩
  rw [in_strV]
  exact k _ F H (Adv.refl e) rfl
end
end Mi
set_option maxHeartbeats 1000000
namespace Mi
open PySem PySem.Spec PyProof.Rows L2
open Evl (Ex)
/-! ### a method whose last row is super().__init__(..) -/
structure FnScopeS (N P : List Str) (sc : Scope) : Prop where
  kind : sc.kind = .function
  co : sc.isCoroutine = false
  gen : sc.isGenerator = false
  nd : N.Nodup
  pre : N.take P.length = P
  par : ∀ x ∈ P, sc.names.lookup x = some .local
  nocell : ∀ y ∈ sc.names, y.2 ≠ .cell
  only : ∀ y ∈ sc.names, y.2 = .free → y.1 = ("__class__" : Str)
  sup : sc.names.lookup ("super" : Str) = some .globalImplicit
  cls : sc.names.lookup ("__class__" : Str) = some .free
/-- where it stands -/
structure FunS (K : PySem.W.Frag) (x qual : Str) (params : Arguments) (body : List Stmt) (scope : Scope) (f cc cda D : Addr) (file : Str) (fd : FuncData) : Prop where
  ex : ∃ (oc : Value) (od : Option Addr) (doc pm : Value) (an : Option Addr) (ct : Value) (osl : Array (Option Value)), fd = PySem.W.ksFn x qual params body scope .none .none doc pm an (.ref cda) ct cc ∧ K.lookup f = some ⟨oc, od, .func fd, osl⟩ ∧ PySem.W.codeIn K (.ref cda) qual = true
  kp : PySem.W.keepIn K (.ref f) = true
  code : ∃ (ccl : Value) (cdd : Option Addr) (vs : Array Value) (ccs : Array (Option Value)) (tf : Tok), K.lookup cda = some ⟨ccl, cdd, .fields vs, ccs⟩ ∧ vs[2]? = some (.str file tf)
  cell : ∃ (cl : Value) (cld : Option Addr) (csl : Array (Option Value)), K.lookup cc = some ⟨cl, cld, .cell (some (.ref D)), csl⟩
/-- what super().__init__ of an instance of C, from within D, comes to: g -/
structure SupF (K : PySem.W.Frag) (C D g : Addr) : Prop where
  dcl : ∃ cd, PySem.W.clsIn K D = some cd
  ccl : ∃ cd, PySem.W.clsIn K C = some cd
  sub : PySem.W.mroIn K C (.ref D) = some true
  op : PySem.W.nsIn K cStatics "thirdparty.any" = some none
  mt : PySem.W.ks_superIn K C D "__init__" = some (some (.ref g))
  ty : PySem.W.typeIn K (.ref g) = some (.type "function")
  fi : PySem.W.fnIn K g = true
abbrev envS (qual : Str) (scope : Scope) (L a : Addr) (cda cc : Addr) : Env := PySem.W.ksEnv qual scope L a (.ref cda) cc
def cxS (CX : CXT) (P : Program) (w : World) (K : PySem.W.Frag) (mg : Str → Option Value) (base : Heap) (N : List Str) (qual : Str) (scope : Scope) (f cda cc : Addr) (A : Around) (outer : List Env) (s : Shared) (H : Hp) (E : XK) : Cx where
  prog := P
  w := w
  K := K
  mg := mg
  base := base
  A := A.deeper (envS qual scope s.heap.objs.size f cda cc)
  N := N
  s_0 := s
  H_0 := H
  env := envS qual scope s.heap.objs.size f cda cc
  outer := outer
  stack := envS qual scope s.heap.objs.size f cda cc :: outer
  ex := []
  calm := true
  fn := fun _ => false
  pn := []
  xe := fun e s' => wpAny (model P w) (A.deeper (envS qual scope s.heap.objs.size f cda cc)) (leaving (envS qual scope s.heap.objs.size f cda cc) e) (fun _ s'' => CX outer H s E e s'') (fun e' s'' => CX outer H s E e' s'') s'
theorem one_cell {cc : Addr} {x : Str} {c : Addr} (h : ([(("__class__" : Str), cc)] : List (Str × Addr)).lookup x = some c) : x = ("__class__" : Str) ∧ c = cc := by
  rw [List.lookup_cons] at h
  split at h
  · rename_i q
    exact ⟨beq_iff_eq.mp q, (Option.some.inj h).symm⟩
  · cases h
theorem inv_startS {CX : CXT} {P : Program} {w : World} {K : PySem.W.Frag} {mg : Str → Option Value} {base : Heap} {N ps : List Str} {qual : Str} {scope : Scope} {f cda cc D : Addr} {A : Around} {outer : List Env} {s : Shared} {h1 : Heap} {tk : Nat} {H : Hp} {E : XK} {us : List Value} {vs : List V}
    (S : FnScopeS N ps scope) (hd : A.handled = none) (e0 : Env0 P w K mg base A outer s H) (hl : vs.length = ps.length) (r : Vals vs us)
    (hc : ∃ (cl : Value) (cld : Option Addr) (csl : Array (Option Value)), K.lookup cc = some ⟨cl, cld, .cell (some (.ref D)), csl⟩)
    (hns : h1.Ns s.heap.objs.size (fun y => (ps.zip us).reverse.lookup y)) (hk : ∀ b o, s.heap.get? b = some o → h1.get? b = some o) :
    Inv (cxS CX P w K mg base N qual scope f cda cc A outer s H E) [] (L2.start N vs) H { s with heap := h1, toks := tk } := by
  have hpl : ps.length ≤ N.length := by have := congrArg List.length S.pre; rw [List.length_take] at this; omega
  obtain ⟨cl, cld, csl, hc⟩ := hc
  have cb := e0.mod.kin _ _ hc
  obtain ⟨cs, cH⟩ := e0.bs _ _ cb
  have clt : cc < s.heap.objs.size := Heap.lt_size cs
  have noA : ∀ b : Addr, b ∉ (cxS CX P w K mg base N qual scope f cda cc A outer s H E).ex := fun b z => absurd (show b ∈ ([] : List Addr) from z) (by simp)
  refine ⟨⟨e0.mod, S.kind, rfl, rfl, Nat.le_refl _, fun y z c h1 h2 => ?_, fun y hy => ?_, fun y c h => absurd (show false = true from h) (by decide), fun _ => hd, Around.frames_deeper e0.frames, .inr ⟨rfl, rfl⟩, fun b z => absurd z (noA b), e0.bs, e0.bsz, fun b _ _ => noA b, fun b z => absurd z (noA b), e0.funs, e0.frf⟩,
    rfl, e0.bare, Un.kept hk, ⟨_, hns, fun i y v h1 h2 h3 => ?_⟩, fun y c h => ?_, e0.hok.fresh (Nat.le_refl _), fun y c h => ?_, fun p hp => absurd (show p ∈ ([] : List (Addr × Obj)) from hp) (by simp), e0.hok.kept hk, ?_⟩
  · exact (one_cell h1).1.trans (one_cell h2).1.symm
  · have hy : scope.names.lookup y = some .cell ∨ scope.names.lookup y = some .free := hy
    rcases hy with hy | hy
    · exact absurd rfl (S.nocell _ (PySem.mem_of_lookup hy))
    · have : y = ("__class__" : Str) := S.only _ (PySem.mem_of_lookup hy) rfl
      subst this
      exact ⟨cc, by show ([(("__class__" : Str), cc)] : List (Str × Addr)).lookup ("__class__" : Str) = some cc; rw [List.lookup_cons, beq_self_eq_true]⟩
  · have hi : i < vs.length := by
      unfold L2.start at h2
      by_cases hi : i < vs.length
      · exact hi
      · rw [List.getElem?_append_right (by simpa using hi)] at h2
        rw [List.getElem?_replicate] at h2
        split at h2 <;> cases h2
    have ha : vs[i]? = some v := by
      unfold L2.start at h2
      rw [List.getElem?_append_left (by simpa using hi), List.getElem?_map] at h2
      cases e : vs[i]? with
      | none => rw [e] at h2; cases h2
      | some a => rw [e] at h2; cases h2; rfl
    obtain ⟨u, hu, rv⟩ := r.get ha
    have hp : ps[i]? = some y := by
      rw [← S.pre, List.getElem?_take_of_lt (by omega)]; exact h1
    have ndP : ps.Nodup := by rw [← S.pre]; exact S.nd.sublist (List.take_sublist _ _)
    have k := S.par y (List.mem_of_getElem? hp)
    refine ⟨u, rv, .inl ⟨k, ?_⟩⟩
    have key : ∀ (l : List Str) (m : List Value) (i : Nat), l.Nodup → l[i]? = some y → m[i]? = some u → (l.zip m).reverse.lookup y = some u := by
      intro l
      induction l with
      | nil => intro m i _ h _; simp at h
      | cons a l ih =>
        intro m i nd h g
        cases m with
        | nil => simp at g
        | cons b m =>
          obtain ⟨n1, n2⟩ := List.nodup_cons.mp nd
          rw [List.zip_cons_cons, List.reverse_cons, List.lookup_append]
          cases i with
          | zero =>
            simp at h g
            subst h g
            have : (l.zip m).reverse.lookup a = none := by
              rw [List.lookup_eq_none_iff]
              intro p hp
              have := List.mem_reverse.mp hp
              have := (List.of_mem_zip (show (p.1, p.2) ∈ l.zip m from this)).1
              simp
              intro z
              exact n1 (z ▸ this)
            rw [this]
            simp
          | succ i =>
            rw [ih m i n2 (by simpa using h) (by simpa using g)]
            rfl
    exact key ps us i ndP hp hu
  · obtain ⟨_, rfl⟩ := one_cell h
    exact ⟨_, _, hk _ _ cs, rfl⟩
  · obtain ⟨_, rfl⟩ := one_cell h
    exact cH
  · unfold L2.start
    show _ = N.length
    rw [List.length_append, List.length_map, List.length_replicate]
    omega
/-- rows of a body that runs as such -/
structure PSf (X : Cx) (c : Code) (st : List Stmt) (t : TS) : Prop where
  run : ∀ (pins : List (Addr × Obj)) (s : Shared) (σ : L2.St) (H : Hp) (D : Ends), Inv X pins σ H s → t D σ H → _root_.PySem.wpAt (model X.prog X.w) X.A c (execs st X.env) (SP X pins D) X.xe s
theorem psf_cons {X : Cx} {c : Code} {st : Stmt} {rest : List Stmt} {t u : TS} (h1 : PS X st t) (h2 : PSf X c rest u) : PSf X c (st :: rest) (tSeq t u) := by
  refine ⟨fun pins s σ H D I h => ?_⟩
  refine PySem.ks_wpAt_execs_cons (_root_.PySem.wpAt_of_wpAny (thn (h1.run pins s σ H { D with nx := u D } I h) fun f s1 q => ?_))
  cases f with
  | next =>
    obtain ⟨σ', H', I', q⟩ := q
    exact h2.run pins s1 σ' H' D I' q
  | ret v => exact q
  | brk => exact q
  | cont => exact q
theorem fn_ofS {CX : CXT} {P : Program} {w : World} {K : PySem.W.Frag} {mg : Str → Option Value} {base : Heap} {k : Nat} {f cc cda D : Addr} {x qual file : Str} {params : Arguments} {body : List Stmt} {scope : Scope} {fd : FuncData}
    {N ps : List Str} {sp : Sp} (F : FunS K x qual params body scope f cc cda D file fd) (S : FnScopeS N ps scope)
    (len : ∀ vs H Q E, sp vs H Q E → vs.length = ps.length)
    (hbody : ∀ (A : Around) (outer : List Env) (s : Shared) (H : Hp) (vs : List V) (Q : VK) (E : XK), Room k (A.deeper (envS qual scope s.heap.objs.size f cda cc)) → sp vs H Q E →
      ∃ t, PSf (cxS CX P w K mg base N qual scope f cda cc A outer s H E) (.func body (envS qual scope s.heap.objs.size f cda cc)) body t ∧ t { nx := fun _ H' => Q .non H', rt := Q } (L2.start N vs) H) :
    FnOk P w K mg base CX (k + 1) f fd ps sp := by
  obtain ⟨oc, od, doc, pm, an, ct, osl, rfl, lk, hcd⟩ := F.ex
  refine ⟨len, fun A outer s H args us vs Q E hr e0 hb r hsp => ?_⟩
  have hl := len _ _ _ _ hsp
  have KX : K.In s.heap := e0.mod.kin.keeps fun b o e => (e0.bs b o e).1
  have lim : s.heap.NoLimit := e0.mod.nolimit.keeps fun b o e => (e0.bs b o e).1
  refine PySem.ks_codeAny_call_defAt hr.depth (KX _ _ lk) rfl lim (PySem.W.codeRec_of KX hcd) rfl hb S.nocell (fun y hy => S.par y.1 (List.of_mem_zip (show (y.1, y.2) ∈ _ from hy)).1) (fun h0 hns hk => ?_) S.co S.gen S.kind
  obtain ⟨t, ht, hq⟩ := hbody A outer s H vs Q E (hr.deeper _) hsp
  have I : Inv (cxS CX P w K mg base N qual scope f cda cc A outer s H E) [] (L2.start N vs) H { s with heap := h0, toks := s.toks + (ps.zip us).length } := inv_startS S hr.hd e0 hl r F.cell hns hk
  refine PySem.ks_wpAt_mono (ht.run [] _ (L2.start N vs) H _ I hq) (fun fl s' hs => ?_) fun e s' hs => hs
  have fin : ∀ {σ' : L2.St} {H' : Hp} {v : V} {u : Value}, Inv (cxS CX P w K mg base N qual scope f cda cc A outer s H E) [] σ' H' s' → RelV v u → Q v H' → CE outer P w H s Q u s' :=
    fun {σ' H' v u} J rv q => ⟨v, H', J.os, J.bare, J.base, J.hok, rv, q⟩
  cases fl with
  | ret u =>
    obtain ⟨v, σ', H', J, rv, q⟩ := hs
    exact fin J rv q
  | next =>
    obtain ⟨σ', H', J, q⟩ := hs
    exact fin (v := V.non) (u := Value.none) J rfl q
  | brk =>
    obtain ⟨_, _, _, q⟩ := hs
    exact False.elim q
  | cont =>
    obtain ⟨_, _, _, q⟩ := hs
    exact False.elim q
/-- super().__init__(..), the last row -/
def tSuper (C g : Addr) (sp : Sp) (E : XK) (t : TA) : TS := fun D σ H => ∃ p dx fs, σ[0]? = some (some (.ref p)) ∧ H p = some (.ins C dx fs) ∧ t σ H fun vs H1 => sp (.ref p :: vs) H1 (fun _ H2 => D.nx σ H2) E
theorem psf_super {CX : CXT} {P : Program} {w : World} {K : PySem.W.Frag} {mg : Str → Option Value} {base : Heap} {k : Nat} {f cc cda C D g : Addr} {x qual file : Str} {params : Arguments} {body : List Stmt} {scope : Scope} {fd gd : FuncData}
    {N ps gs : List Str} {sp : Sp} {A : Around} {outer : List Env} {s0 : Shared} {H0 : Hp} {E0 E : XK} {t : TA} {ar : Arg} {pl : Sem Bool} {p0 p1 apos pos pos' : Pos} {e : Expr} {es : List Expr}
    (F : FunS K x qual params body scope f cc cda D file fd) (S : FnScopeS N ps scope) (U : SupF K C D g)
    (hfile : ((P.main.file : Str) == file) = true) (htop : (P.main.scope.names.lookup ("super" : Str)).isSome = false) (hmg : mg ("super" : Str) = none)
    (hp : (params.posonlyargs ++ params.args).head? = some ar) (hn0 : N[0]? = some ar.arg) (hps : ar.arg ∈ ps)
    (G : FnOk P w K mg base CX k g gd gs sp) (hr : Room k (A.deeper (envS qual scope s0.heap.objs.size f cda cc))) (hb : Binds K gd gs [])
    (hx : Passes CX (cxS CX P w K mg base N qual scope f cda cc A outer s0 H0 E0) E)
    (ha : PA (cxS CX P w K mg base N qual scope f cda cc A outer s0 H0 E0) (e :: es) t)
    (hst : starEach (e :: es) (envS qual scope s0.heap.objs.size f cda cc) = (false, eval e (envS qual scope s0.heap.objs.size f cda cc)) :: starEach es (envS qual scope s0.heap.objs.size f cda cc) := by rfl)
    (hpl : (backTo pos (starEach es (envS qual scope s0.heap.objs.size f cda cc))).any (·.1) = false := by rfl)
    (hsw : swapsWith (.Call (.Attribute (.Call (.Name "super" p0) [] [] p1) "__init__" apos) (e :: es) [] pos) none pos'.line (envS qual scope s0.heap.objs.size f cda cc) = pure false := by rfl)
    (ht : eval (.Call (.Attribute (.Call (.Name "super" p0) [] [] p1) "__init__" apos) (e :: es) [] pos) (envS qual scope s0.heap.objs.size f cda cc) = (do
      let ov ← attributeBase (.Call (.Name "super" p0) [] [] p1) "__init__" (envS qual scope s0.heap.objs.size f cda cc) (eval (.Call (.Name "super" p0) [] [] p1) (envS qual scope s0.heap.objs.size f cda cc))
      standAt apos.atName
      let (fv, first) ← holding [ov] (getMethod ov "__init__" pl)
      callWith pos fv first (backTo pos (starEach (e :: es) (envS qual scope s0.heap.objs.size f cda cc))) []) := by rfl) :
    PSf (cxS CX P w K mg base N qual scope f cda cc A outer s0 H0 E0) (.func body (envS qual scope s0.heap.objs.size f cda cc)) [.Expr (.Call (.Attribute (.Call (.Name "super" p0) [] [] p1) "__init__" apos) (e :: es) [] pos) pos'] (tSuper C g sp E t) := by
  refine ⟨fun pins s σ H D' I h => ?_⟩
  obtain ⟨p, dx, fs, h0, hp0, htq⟩ := h
  obtain ⟨oc, od, doc, pm, an, ct, osl, rfl, lk, hcd⟩ := F.ex
  obtain ⟨ccl, cdd, vs, ccs, tf, hcode, hvs⟩ := F.code
  obtain ⟨cl, cld, csl, hcell⟩ := F.cell
  obtain ⟨cd, hD⟩ := U.dcl
  obtain ⟨cdC, hC⟩ := U.ccl
  obtain ⟨mb, hb1, hb2⟩ := I.mod.blt
  obtain ⟨m, hn, hlk⟩ := I.loc
  have X := I.kIn
  have loc0 := S.par _ hps
  obtain ⟨u, ru, lu⟩ := hlk 0 ar.arg (.ref p) hn0 h0 (.inl loc0)
  have hmv : m ar.arg = some (.ref p) := by
    rcases lu with ⟨_, z⟩ | ⟨z, _⟩
    · rw [z]; exact congrArg some ru
    · have z : scope.names.lookup ar.arg = some .cell ∨ scope.names.lookup ar.arg = some .free := z
      rw [loc0] at z
      rcases z with z | z <;> cases z
  obtain ⟨mA, O, _, _, _, _⟩ := ins_get I.hok hp0
  obtain ⟨odx, J, _⟩ := O.look
  obtain ⟨oD, hD1, hD2⟩ : ∃ oD, s.heap.get? D = some oD ∧ oD.data = .cls cd := by
    unfold PySem.W.clsIn at hD
    split at hD
    · rename_i c d cd' sl ho
      cases hD
      exact ⟨_, X _ _ ho, rfl⟩
    · cases hD
  obtain ⟨og, hg, hgc⟩ : ∃ og, s.heap.get? g = some og ∧ og.cls = .type "function" := by
    have ht' : (K.lookup g).map (·.cls) = some (.type "function") := U.ty
    cases z : K.lookup g with
    | none => rw [z] at ht'; cases ht'
    | some og => rw [z] at ht'; exact ⟨og, X _ _ z, Option.some.inj ht'⟩
  have hko := I.ok.kind
  refine PySem.ks_wpAt_execs_cons (PySem.ks_wpAt_Expr_any ?_ I.quiet hsw)
  refine PySem.ks_wpAt_MethodCall (pl := pl) ?_ ht
  refine PySem.ks_wpAt_super_base (attr := "__init__") (env := envS qual scope s0.heap.objs.size f cda cc) S.sup S.cls (by decide) rfl (X _ _ lk) rfl hp rfl (X _ _ hcode) rfl hvs hfile htop ?_
  refine PySem.W.ks_loadName_global hko S.sup (Calls.loadGlobal_builtin (I.mod.glob.keeps I.bk) hmg (hb1.keeps I.bk) ((hb2 _ (by decide)).trans (by decide +kernel)) ⟨rfl, ?_⟩)
  refine wpAny_loadName_free hko S.cls rfl ⟨_, X _ _ hcell, rfl⟩ ?_
  refine wpAny_loadName_local hko loc0 hn hmv ?_
  refine PySem.ks_wpAny_isType_cls hD1 hD2 ⟨rfl, ?_⟩
  obtain ⟨hh, gg, d, tt, os⟩ := s
  refine PySem.ks_wpAny_call_super hD1 hD2 J.at_ J.cls (fun c z => ?_) (PySem.W.looks_mroIn X U.sub) (fun h' e1 k1 => ?_)
  · have := J.no
    unfold PySem.W.notCls at this
    rw [z] at this
    exact Bool.noConfusion this
  have I1 : Inv (cxS CX P w K mg base N qual scope f cda cc A outer s0 H0 E0) pins σ H ⟨h', gg, d, tt, os⟩ := I.kept (t' := tt) k1
  have X1 := I1.kIn
  have hm : PySem.W.alongIn K "__init__" ((cdC.mro.dropWhile (· != .ref D)).drop 1) = some (some (.ref g)) := by
    have := U.mt
    unfold PySem.W.ks_superIn at this
    rw [hC] at this
    exact this
  refine PySem.ks_wpAny_getMethod_super e1 (PySem.W.looks_opaque X1 U.op) (l₀ := cdC.mro) ?_ rfl X1 hm (k1 _ _ hg) hgc (PySem.W.ks_ne X J hC) (by decide) ?_
  · exact fun A Q E s k q => wpAny_bind ((PySem.W.looks_clsIn X1 hC) A _ E s k (wpAny_pure q))
  have I2a : Inv (cxS CX P w K mg base N qual scope f cda cc A outer s0 H0 E0) pins σ H ⟨h'.push (PySem.W.methodObj (.ref g) (.ref p)), gg, d, tt + 1, os⟩ := I1.kept (t' := tt + 1) fun b u z => Heap.get?_push_of_some _ z
  have I2 : Inv (cxS CX P w K mg base N qual scope f cda cc A outer s0 H0 E0) ((h'.objs.size, PySem.W.methodObj (.ref g) (.ref p)) :: pins) σ H ⟨h'.push (PySem.W.methodObj (.ref g) (.ref p)), gg, d, tt + 1, os⟩ := I2a.pins_of fun z hz => by
    rcases List.mem_cons.mp hz with rfl | hz
    · exact ⟨Heap.get?_push_size h' rfl, I1.hok.fresh (Nat.le_refl _), fun e => absurd I1.lt (by rw [← e]; exact Nat.lt_irrefl _), I1.nofs (Nat.le_refl _), fun v q => nomatch q⟩
    · exact I2a.pin z (List.mem_append_right _ hz)
  show wpAny (model P w) _ (callWith pos (.ref h'.objs.size) [] (backTo pos (starEach (e :: es) (envS qual scope s0.heap.objs.size f cda cc))) []) _ _ _
  have run := ha.run pos ((h'.objs.size, PySem.W.methodObj (.ref g) (.ref p)) :: pins) _ σ H _ I2 htq
  have run : wpAny (model P w) _ (spliced (backTo pos (starEach (e :: es) (envS qual scope s0.heap.objs.size f cda cc)))) _ _ _ := run
  rw [hst] at run ⊢
  refine PySem.W.callWith_of (P := PySem.W.MethP K h'.objs.size g (.ref p)) (by show ((false || (backTo pos (starEach es (envS qual scope s0.heap.objs.size f cda cc))).any (·.1)) || false) = false; rw [hpl]; rfl) (PySem.W.keeps_M U.fi) (Calls.evalArgs_plain (thn run fun us s3 q3 => ?_))
  obtain ⟨vs3, H3, I3, r3, q3⟩ := q3
  have at3 := I3.pin (h'.objs.size, PySem.W.methodObj (.ref g) (.ref p)) (List.mem_append_right _ List.mem_cons_self)
  refine ⟨⟨at3.1, I3.kIn⟩, ?_⟩
  have r4 : Vals (.ref p :: vs3) (.ref p :: us) := .cons rfl r3
  have hl : (Value.ref p :: us ++ []).length = gs.length := by rw [List.append_nil, ← r4.length]; exact G.len _ _ _ _ q3
  have hbb := hb s3 (.ref p :: us) I3.kIn hl
  rw [List.append_nil] at hbb
  refine wpAny_call (PySem.W.method_call at3.1 (codeAny_mono (G.run _ _ s3 H3 ⟨.ref p :: us, []⟩ (.ref p :: us) (.ref p :: vs3) _ E hr I3.env0 hbb r4 q3) fun r s' hq => ?_))
  cases r with
  | error e => exact hx _ σ H3 s3 e s' I3 hq
  | ok fl =>
    cases fl with
    | ret u =>
      obtain ⟨v, H4, I4, rv, q4⟩ := I3.after hq
      refine _root_.PySem.wpAt_of_wpAny (wpAny_execs_nil ?_)
      exact ⟨σ, H4, I4.pins_of (fun z hz => I4.pin z (by
        rcases List.mem_append.mp (show z ∈ ([] : List (Addr × Obj)) ++ pins from by simpa using hz) with h | h
        · cases h
        · exact List.mem_append_right _ (List.mem_cons_of_mem _ h))), q4⟩
    | next => exact False.elim hq
    | brk => exact False.elim hq
    | cont => exact False.elim hq
end Mi
set_option maxHeartbeats 1000000
namespace Mi
open PySem PySem.Spec PyProof.Rows L2
open Evl (Ex)
/-! ### what the head tells -/
abbrev FnC : Type := Option (Str × Str × Arguments × FuncBody × Scope × Addr × List Str × Value × Value × Addr)
/-- a method that says super(): its class, the def's place in it -/
structure SupD where
  cls : Str
  name : Str
  qual : Str
  params : Arguments
  body : List Stmt
  scope : Scope
  file : Str
def SupD.val (d : SupD) : FnC := some (d.name, d.qual, d.params, .stmts d.body, d.scope, mainGlobals, [("__class__" : Str)], .none, .none, builtinsNs)
def SupD.ad (K : PySem.W.Frag) (d : SupD) : Addr := He.ma K (He.ga K d.cls) d.name
def fnC (K : PySem.W.Frag) (a : Addr) : FnC := match K.lookup a with
  | some o => (match o.data with
    | .func fd => some (fd.name, fd.qualname, fd.params, fd.body, fd.scope, fd.globals, fd.closure.map (·.1), fd.defaults, fd.kwdefaults, fd.builtins)
    | _ => none)
  | none => none
def fnData (K : PySem.W.Frag) (a : Addr) : Option FuncData := match K.lookup a with
  | some o => (match o.data with
    | .func fd => some fd
    | _ => none)
  | none => none
def cellB (K : PySem.W.Frag) (c D : Addr) : Bool := match K.lookup c with
  | some o => (match o.data with
    | .cell (some (.ref d)) => d == D
    | _ => false)
  | none => false
def codeB (K : PySem.W.Frag) (c : Addr) (file : Str) : Bool := match K.lookup c with
  | some o => (match o.data with
    | .fields vs => (match (vs[2]? : Option Value) with
      | some (.str z _) => decide (z = file)
      | _ => false)
    | _ => false)
  | none => false
def SupD.ok (K : PySem.W.Frag) (d : SupD) : Bool := PySem.W.keepIn K (.ref (d.ad K)) && (match fnData K (d.ad K) with
  | some fd => PySem.W.codeIn K fd.code d.qual && (match fd.code, fd.closure with
    | .ref c, [(_, cc)] => codeB K c d.file && cellB K cc (He.ga K d.cls)
    | _, _ => false)
  | none => false)
theorem lookO {K : PySem.W.Frag} {a : Addr} {o : Obj} (h : K.lookup a = some o) {dt : Data} (e : o.data = dt) : K.lookup a = some ⟨o.cls, o.dict, dt, o.slots⟩ := by rw [h, ← e]
theorem cellB_ok {K : PySem.W.Frag} {c D : Addr} (h : cellB K c D = true) : ∃ (cl : Value) (cld : Option Addr) (csl : Array (Option Value)), K.lookup c = some ⟨cl, cld, .cell (some (.ref D)), csl⟩ := by
  unfold cellB at h
  split at h
  · rename_i o q
    split at h
    · rename_i d e
      have : d = D := beq_iff_eq.mp h
      subst this
      exact ⟨_, _, _, lookO q e⟩
    · cases h
  · cases h
theorem codeB_ok {K : PySem.W.Frag} {c : Addr} {file : Str} (h : codeB K c file = true) : ∃ (ccl : Value) (cdd : Option Addr) (vs : Array Value) (ccs : Array (Option Value)) (tf : Tok), K.lookup c = some ⟨ccl, cdd, .fields vs, ccs⟩ ∧ vs[2]? = some (.str file tf) := by
  unfold codeB at h
  split at h
  · rename_i o q
    split at h
    · rename_i vs e
      split at h
      · rename_i z t e2
        have : z = file := of_decide_eq_true h
        subst this
        exact ⟨_, _, _, _, _, lookO q e, e2⟩
      · cases h
    · cases h
  · cases h
theorem supD_ok {K : PySem.W.Frag} {d : SupD} (e : fnC K (d.ad K) = d.val) (h : d.ok K = true) : ∃ fd cc cda, FunS K d.name d.qual d.params d.body d.scope (d.ad K) cc cda (He.ga K d.cls) d.file fd := by
  unfold SupD.ok at h
  obtain ⟨kp, h⟩ := He.ba h
  split at h
  · rename_i fd q
    obtain ⟨hc, h⟩ := He.ba h
    unfold fnData at q
    split at q
    · rename_i o lk
      split at q
      · rename_i fd' e1
        cases q
        unfold fnC at e
        rw [lk] at e
        dsimp only at e
        rw [e1] at e
        split at h
        · rename_i c y cc e2 e3
          obtain ⟨h1, h2⟩ := He.ba h
          obtain ⟨n1, n2, n3, n4, n5, n6, n7, n8, n9, n10, n11, n12, n13, n14, n15⟩ := fd
          dsimp only at e2 e3 hc
          subst e2 e3
          unfold SupD.val at e
          simp only [Option.some.injEq, Prod.mk.injEq, List.map_cons, List.map_nil, List.cons.injEq, and_true] at e
          obtain ⟨r1, r2, r3, r4, r5, r6, r7, r8, r9, r10⟩ := e
          subst r1 r2 r3 r4 r5 r6 r7 r8 r9 r10
          exact ⟨_, cc, c, ⟨_, _, _, _, _, _, _, rfl, lookO lk e1, hc⟩, kp, codeB_ok h1, cellB_ok h2⟩
        · cases h
      · cases q
    · cases q
  · cases h
/-- super().__init__ of an instance of c within D: which def -/
def supB (K : PySem.W.Frag) (c D g : Str) : Bool := (PySem.W.clsIn K (He.ga K D)).isSome && ((PySem.W.clsIn K (He.ga K c)).isSome && (decide (PySem.W.mroIn K (He.ga K c) (.ref (He.ga K D)) = some true) && (He.eqO (PySem.W.nsIn K cStatics "thirdparty.any") (some none) &&
  (He.eqO (PySem.W.ks_superIn K (He.ga K c) (He.ga K D) "__init__") (some (some (.ref (He.ma K (He.ga K g) "__init__")))) && (decide (PySem.W.typeIn K (.ref (He.ma K (He.ga K g) "__init__")) = some (.type "function")) && PySem.W.fnIn K (He.ma K (He.ga K g) "__init__"))))))
theorem supB_ok {K : PySem.W.Frag} {c D g : Str} (h : supB K c D g = true) : SupF K (He.ga K c) (He.ga K D) (He.ma K (He.ga K g) "__init__") := by
  unfold supB at h
  obtain ⟨h1, h⟩ := He.ba h
  obtain ⟨h2, h⟩ := He.ba h
  obtain ⟨h3, h⟩ := He.ba h
  obtain ⟨h4, h⟩ := He.ba h
  obtain ⟨h5, h⟩ := He.ba h
  obtain ⟨h6, h7⟩ := He.ba h
  exact ⟨Option.isSome_iff_exists.mp h1, Option.isSome_iff_exists.mp h2, of_decide_eq_true h3, He.eqO_ok h4, He.eqO_ok h5, of_decide_eq_true h6, h7⟩
/-! ### dicts of the top with text keys -/
def tabB (K : PySem.W.Frag) (a : Addr) (kvs : List (Str × D)) : Bool := kvs.all fun q => match PySem.W.nsIn K a q.1 with
  | some (some u) => repB K q.2 u
  | _ => false
/-- a name of the module that stands for such a dict -/
structure TabF (K : PySem.W.Frag) (w : World) (mg : Str → Option Value) (x : Str) (kvs : List (Str × D)) : Prop where
  m : mg x = some (.ref (He.ga K x))
  d : ∃ es n, KDict K w (He.ga K x) es n
  hit : ∀ z d, kvs.lookup z = some d → ∃ u v, PySem.W.nsIn K (He.ga K x) z = some (some u) ∧ RelV v u ∧ ∀ F, Rep K F d v
  miss : ∀ z, kvs.lookup z = none → PySem.W.nsIn K (He.ga K x) z = some none
theorem dicW_keys {K : PySem.W.Frag} {P : Params} {a : Addr} {ks : List Str} (h : He.dicW K a = some (He.keysIn P ks)) : ∃ es n o, K.lookup a = some o ∧ o.data = .dict es n ∧ es.toList.map He.keyOf = He.keysIn P ks := by
  unfold He.dicW at h
  split at h
  · rename_i c es n sl q
    split at h
    · exact ⟨es, n, _, q, rfl, Option.some.inj h⟩
    · cases h
  · cases h
theorem keys_miss {P : Params} {z : Str} : ∀ {l : List DictEntry} {ks : List Str}, l.map He.keyOf = He.keysIn P ks → z ∉ ks → l.find? (·.key.isStr z) = none ∧ l.any (·.refKey) = false
  | [], _, _, _ => ⟨rfl, rfl⟩
  | e :: r, [], h, _ => by cases h
  | e :: r, k :: ks, h, hz => by
    have h1 : He.keyOf e :: r.map He.keyOf = some (k, PyData.keyHash P k) :: He.keysIn P ks := h
    injection h1 with h2 h3
    have hk : z ≠ k := fun q => hz (by rw [q]; exact List.mem_cons_self)
    obtain ⟨i1, i2⟩ := keys_miss (z := z) h3 (fun q => hz (List.mem_cons_of_mem _ q))
    unfold He.keyOf at h2
    split at h2
    · rename_i x t q
      have h4 := Option.some.inj h2
      obtain ⟨h5, _⟩ := Prod.mk.inj h4
      refine ⟨?_, ?_⟩
      · rw [List.find?_cons]
        have : e.key.isStr z = false := by
          rw [q, h5]
          show (k == z) = false
          simp
          exact fun w => hk w.symm
        rw [this]; exact i1
      · rw [List.any_cons, i2]
        have : e.refKey = false := by unfold DictEntry.refKey; rw [q]
        rw [this]; rfl
    · cases h2
theorem tabF_of {K : PySem.W.Frag} {h : Heap} {w : World} {mg : Str → Option Value} {x : Str} {kvs : List (Str × D)} (X : K.In h) (G : h.Ns mainGlobals mg) (c1 : (He.Fa.glo x).ok K = true) (c2 : tabB K (He.ga K x) kvs = true)
    (c3 : He.dicW K (He.ga K x) = some (He.keysIn w.params (kvs.map (·.1)))) : TabF K w mg x kvs := by
  refine ⟨He.glo_ok X G c1, He.dicW_ok c3, fun z d e => ?_, fun z e => ?_⟩
  · have hm : (z, d) ∈ kvs := by
      clear c1 c2 c3
      induction kvs with
      | nil => cases e
      | cons p r ih =>
        obtain ⟨a, b⟩ := p
        rw [List.lookup_cons] at e
        split at e
        · rename_i q
          cases e
          rw [beq_iff_eq.mp q]
          exact List.mem_cons_self
        · exact List.mem_cons_of_mem _ (ih e)
    have q := List.all_eq_true.mp c2 (z, d) hm
    dsimp only at q
    split at q
    · rename_i u eu
      obtain ⟨v, r, hv⟩ := repB_ok d u q
      exact ⟨u, v, eu, r, hv⟩
    · cases q
  · obtain ⟨es, n, o, q1, q2, q3⟩ := dicW_keys c3
    have hz : z ∉ kvs.map (·.1) := by
      intro hm
      obtain ⟨p, hp, rfl⟩ := List.mem_map.mp hm
      rw [List.lookup_eq_none_iff] at e
      have := e p hp
      simp at this
    obtain ⟨m1, m2⟩ := keys_miss q3 hz
    obtain ⟨oc, od, dt, osl⟩ := o
    dsimp only at q2
    subst q2
    unfold PySem.W.nsIn
    rw [q1]
    dsimp only
    rw [m1]
    dsimp only
    rw [m2]
    rfl
/-! ### the hook -/
abbrev AlY : Type := He.AlT × Bool × List FnC
def asY (g : Addr → Option Obj) (n : Nat) : List Addr := He.asD g n ++ [cStatics]
def obsY (n : Nat) (fa : List He.Fa) (fn : List He.DefD) (ts : List He.Tab) (ss : List SupD) (ex : PySem.W.Frag → Bool) (g : Addr → Option Obj) : AlY :=
  (He.obsT fa fn ts (He.frT g (asY g n)), ex (He.frT g (asY g n)) && ss.all (SupD.ok (He.frT g (asY g n))), ss.map fun d => fnC (He.frT g (asY g n)) (d.ad (He.frT g (asY g n))))
def valY (fn : List He.DefD) (ts : List He.Tab) (ss : List SupD) (w : World) : AlY := (He.valT fn ts w, true, ss.map SupD.val)
structure SaysY (fa : List He.Fa) (fn : List He.DefD) (ts : List He.Tab) (ss : List SupD) (ex : PySem.W.Frag → Bool) (w : World) (K : PySem.W.Frag) : Prop where
  t : He.SaysT fa fn ts w K
  more : ex K = true
  sup : ∀ d ∈ ss, ∃ fd cc cda, FunS K d.name d.qual d.params d.body d.scope (d.ad K) cc cda (He.ga K d.cls) d.file fd
theorem saysY_of {n : Nat} {fa : List He.Fa} {fn : List He.DefD} {ts : List He.Tab} {ss : List SupD} {ex : PySem.W.Frag → Bool} {w : World} {h : Heap} (e : obsY n fa fn ts ss ex h.get? = valY fn ts ss w) : SaysY fa fn ts ss ex w (He.frT h.get? (asY h.get? n)) := by
  have e2 : (ex (He.frT h.get? (asY h.get? n)) && ss.all (SupD.ok (He.frT h.get? (asY h.get? n)))) = true := congrArg (fun z : AlY => z.2.1) e
  have e3 : (ss.map fun d => fnC (He.frT h.get? (asY h.get? n)) (d.ad (He.frT h.get? (asY h.get? n)))) = ss.map SupD.val := congrArg (fun z : AlY => z.2.2) e
  obtain ⟨h1, h2⟩ := He.ba e2
  exact ⟨congrArg (fun z : AlY => z.1) e, h1, fun d hd => supD_ok (List.map_inj_left.mp e3 d hd) (List.all_eq_true.mp h2 d hd)⟩
def hookY (n : Nat) (fa : List He.Fa) (fn : List He.DefD) (ts : List He.Tab) (ss : List SupD) (ex : PySem.W.Frag → Bool) : PySem.W.Hook where
  α := AlY
  obs := fun s => obsY n fa fn ts ss ex s.heap.get?
  val := fun w => valY fn ts ss w
  says := fun w h => ∃ K : PySem.W.Frag, K.In h ∧ SaysY fa fn ts ss ex w K
  of := fun _ _ e => ⟨_, He.frT_in, saysY_of e⟩
  keeps := fun _ _ _ ⟨K, hK, c⟩ k => ⟨K, PySem.W.Frag.In.keeps hK k, c⟩
theorem obsY_eq {n : Nat} {fa : List He.Fa} {fn : List He.DefD} {ts : List He.Tab} {ss : List SupD} {ex : PySem.W.Frag → Bool} {g : Addr → Option Obj} {s : Shared} (h : ∀ a, g a = s.heap.get? a) : obsY n fa fn ts ss ex g = (hookY n fa fn ts ss ex).obs s := by
  have e : g = s.heap.get? := funext h
  rw [e] <;> rfl
theorem saysT_tab {fa : List He.Fa} {fn : List He.DefD} {ts : List He.Tab} {w : World} {K : PySem.W.Frag} (c : He.SaysT fa fn ts w K) (i : Nat) {t : He.Tab} (h : ts[i]? = some t) : He.dicW K (t.1 K) = some (He.keysIn w.params t.2) := by
  have e : ts.map (fun t => He.dicW K (t.1 K)) = ts.map fun t => some (He.keysIn w.params t.2) := congrArg (fun z : He.AlT => z.2) c
  exact List.map_inj_left.mp e t (List.mem_of_getElem? h)
/-! ### a dict of the top, read -/
def dget {α : Type} (kvs : List (Str × α)) (z : Str) : Res α := match kvs.lookup z with
  | some x => .ok x
  | none => .stuck
def din {α : Type} (kvs : List (Str × α)) (z : Str) : Bool := (kvs.lookup z).isSome
abbrev tabD {α : Type} [ToD α] (kvs : List (Str × α)) : List (Str × D) := kvs.map fun p => (p.1, toD p.2)
theorem look_map {α β : Type} (f : α → β) (z : Str) : ∀ kvs : List (Str × α), (kvs.map fun p => (p.1, f p.2)).lookup z = (kvs.lookup z).map f
  | [] => rfl
  | (k, v) :: r => by
    rw [List.map_cons, List.lookup_cons, List.lookup_cons, look_map f z r]
    cases z == k <;> rfl
theorem cr_ixD {X : Cx} {K : PySem.W.Frag} {w : World} (h : X.K = K) (hw : X.w = w) : IxR X (rIxD K w) := by subst h hw; exact ix_kdict
def rInD (K : PySem.W.Frag) (a : Addr) (neg : Bool) : R2 := fun x y H Q => ∃ (z : Str) (r : Option Value), x = .str z ∧ y = .ref a ∧ PySem.W.nsIn K a z = some r ∧ Q (.bl (if neg then !r.isSome else r.isSome)) H
section
variable {K : PySem.W.Frag} {w : World} {mg : Str → Option Value} {x : Str} {kvs : List (Str × D)}
theorem cr_inD {X : Cx} (T : TabF K w mg x kvs) (h : X.K = K) (hw : X.w = w) : OpR X (compareOp .In) (rInD K (He.ga K x) false) := by
  subst h hw
  obtain ⟨es, n, d⟩ := T.d
  exact op_in_kd d
theorem cr_ninD {X : Cx} (T : TabF K w mg x kvs) (h : X.K = K) (hw : X.w = w) : OpR X (compareOp .NotIn) (rInD K (He.ga K x) true) := by
  subst h hw
  obtain ⟨es, n, d⟩ := T.d
  exact op_notIn_kd d
variable {W : WX} {env : En} {te : TE} {α : Type} [ToD α] {l : List (Str × α)}
theorem ev_dget {m : Res Str} (T : TabF K w mg x (tabD l)) (h : EvX K W env te m) : EvX K W env (tOp (rIxD K w) (tC (.ref (He.ga K x))) te) (m.bind fun z => dget l z) := fun F0 H0 F H σ Q S k => by
  refine h F0 H0 F H σ _ S (KE.cut S.ex k fun z v F1 H1 e1 a1 r1 k1 => ?_)
  cases (show v = V.str z from r1)
  dsimp only [dget] at k1
  obtain ⟨es, n, d⟩ := T.d
  have lm := look_map (fun y : α => toD y) z l
  cases q : l.lookup z with
  | none => rw [q] at k1; exact k1.elim
  | some y =>
    rw [q] at k1 lm
    obtain ⟨u, vv, n1, rv, hv⟩ := T.hit z _ lm
    exact ⟨_, z, vv, rfl, rfl, ⟨es, n, u, d.at_, d.lit, n1, rv⟩, k1 _ F1 H1 (Adv.refl a1.in_) (hv F1)⟩
theorem ev_inD {m : Res Str} (T : TabF K w mg x (tabD l)) (neg : Bool) (h : EvX K W env te m) : EvX K W env (tOp (rInD K (He.ga K x) neg) te (tC (.ref (He.ga K x)))) (m.bind fun z => .ok (if neg then !din l z else din l z)) := fun F0 H0 F H σ Q S k => by
  refine h F0 H0 F H σ _ S (KE.cut S.ex k fun z v F1 H1 e1 a1 r1 k1 => ?_)
  cases (show v = V.str z from r1)
  have lm := look_map (fun y : α => toD y) z l
  unfold din at k1
  cases q : l.lookup z with
  | none =>
    rw [q] at k1 lm
    exact ⟨z, none, rfl, rfl, T.miss z lm, k1 _ F1 H1 (Adv.refl a1.in_) rfl⟩
  | some y =>
    rw [q] at k1 lm
    obtain ⟨u, vv, n1, rv, hv⟩ := T.hit z _ lm
    exact ⟨z, some u, rfl, rfl, n1, k1 _ F1 H1 (Adv.refl a1.in_) rfl⟩
end
/-! ### one of two -/
inductive Un (α β : Type) where
  | l (x : α) | r (y : β)
instance {α β : Type} [ToD α] [ToD β] : ToD (Un α β) := ⟨fun u => match u with | .l x => ToD.d x | .r y => ToD.d y⟩
def Un.asL {α β : Type} : Un α β → Res α
  | .l x => .ok x
  | .r _ => .stuck
def Un.asR {α β : Type} : Un α β → Res β
  | .l _ => .stuck
  | .r y => .ok y
section
variable {α β : Type} [ToD α] [ToD β]
theorem asL_ok : ∀ (x : Un α β) (y : α), x.asL = .ok y → toD y = toD x
  | .l x, y, h => by cases h; rfl
  | .r x, y, h => by cases h
theorem asR_ok : ∀ (x : Un α β) (y : β), x.asR = .ok y → toD y = toD x
  | .r x, y, h => by cases h; rfl
  | .l x, y, h => by cases h
theorem asL_x : ∀ (x : Un α β) (c : Str), x.asL ≠ .exc c
  | .l x, c, h => by cases h
  | .r x, c, h => by cases h
theorem asR_x : ∀ (x : Un α β) (c : Str), x.asR ≠ .exc c
  | .l x, c, h => by cases h
  | .r x, c, h => by cases h
end
def orR {α : Type} : Res α → Res α → Res α
  | .stuck, m => m
  | .ok x, _ => .ok x
  | .exc c, _ => .exc c
theorem orR_ok {α : Type} (x : α) (m : Res α) : orR (.ok x) m = .ok x := rfl
theorem orR_exc {α : Type} (c : Str) (m : Res α) : orR (.exc c) m = .exc c := rfl
theorem orR_stuck {α : Type} (m : Res α) : orR .stuck m = m := rfl
def tAlt (ta tb : TE) : TE := fun σ H Q => ta σ H Q ∨ tb σ H Q
theorem pe_alt {X : Cx} {e : Expr} {ta tb : TE} (ha : PE X e ta) (hb : PE X e tb) : PE X e (tAlt ta tb) := ⟨fun pins s σ H Q I h => h.elim (ha.run pins s σ H Q I) (hb.run pins s σ H Q I)⟩
theorem ev_alt {K : PySem.W.Frag} {W : WX} {env : En} {ta tb : TE} {α : Type} [ToD α] {m1 m2 : Res α} (ha : EvX K W env ta m1) (hb : EvX K W env tb m2) : EvX K W env (tAlt ta tb) (orR m1 m2) := fun F0 H0 F H σ Q S k => by
  cases m1 with
  | ok x => exact .inl (ha F0 H0 F H σ Q S k)
  | exc c => exact .inl (ha F0 H0 F H σ Q S k)
  | stuck => exact .inr (hb F0 H0 F H σ Q S k)
/-! ### super().__init__ in blocks -/
theorem FunS.bindsN {K : PySem.W.Frag} {x qual : Str} {params : Arguments} {body : List Stmt} {scope : Scope} {f cc cda D : Addr} {file : Str} {fd : FuncData} {ps : List Str} (F : FunS K x qual params body scope f cc cda D file fd)
    (h : ∀ (doc pm : Value) (an : Option Addr) (ct : Value) (us : List Value), us.length = ps.length → bindArgs (PySem.W.ksFn x qual params body scope .none .none doc pm an (.ref cda) ct cc) ⟨us, []⟩ = pure (ps.zip us)) : Binds K fd ps [] := by
  obtain ⟨oc, od, doc, pm, an, ct, osl, rfl, lk, hcd⟩ := F.ex
  exact .all (h doc pm an ct)
section
variable {P : Program} {w : World} {K : PySem.W.Frag} {mg : Str → Option Value} {base : Heap} {x qual file : Str} {params : Arguments} {body : List Stmt} {scope : Scope} {f cc cda D : Addr} {fd : FuncData}
theorem fn_okS {N ps : List Str} {n0 : Str} {k : Nat} {β τ : Type} [ToDs β] [ToD τ] {fM : β → Res τ} {c : Str} (F : FunS K x qual params body scope f cc cda D file fd) (S : FnScopeS (n0 :: N) ps scope) (hl : ∀ y : β, (ToDs.ds y).length + 1 = ps.length)
    (hbody : ∀ (A : Around) (outer : List Env) (s : Shared) (H : Hp) (E : XK), Room k (A.deeper (envS qual scope s.heap.objs.size f cda cc)) →
      ∃ t, PSf (cxS (L2.CX P w) P w K mg base (n0 :: N) qual scope f cda cc A outer s H E) (.func body (envS qual scope s.heap.objs.size f cda cc)) body t ∧
        ∀ (y : β) (p : Addr) (F0 H0 : Hp) (Q : VK) (KP : Res τ → Prop), Lk K (fun cls d _ H => E cls d H) F0 H0 (fun v H' => v = .ref p → Q .non H') (fun _ => True) KP → Blk K F0 H0 KP (t { nx := fun _ H' => Q .non H', rt := Q }) (some (.oi (some p) c [] []) :: enStart N (ToDs.ds y)) (fM y)) :
    FnOk P w K mg base (L2.CX P w) (k + 1) f fd ps (spI K c fM) := by
  refine fn_ofS F S (fun vs H Q E h => ?_) (fun A outer s H vs Q E hr h => ?_)
  · obtain ⟨F, y, p, dx, ws, rfl, _, _, _, r, _⟩ := h
    rw [← hl y, List.length_cons, ← r.length]
  · obtain ⟨t, h1, h2⟩ := hbody A outer s H E hr
    refine ⟨t, h1, ?_⟩
    obtain ⟨F, y, p, dx, ws, rfl, e, hf, hp, r, q⟩ := h
    refine h2 y p F (hide H p) Q (fun r => KIn K F H p Q E r) ⟨fun z h v F' H' a r z => ?_, fun c F' H' σ env h _ S' => h F' H' S'.adv, fun z => z⟩ F H _ (sl_startI e hf hp r) q
    subst z
    exact h F' H' a r
theorem blk_superI {τ : Type} [ToD τ] {KP : Res τ → Prop} {F0 H0 : Hp} {E : XK} {Q : VK} {p : Addr} {c : Str} {g : Addr} {env : En} {δ : Type} [ToDs δ] {ts : TA} {ma : Res δ} {fM : δ → Res τ}
    (L : Lk K (fun cls d _ H => E cls d H) F0 H0 (fun v H' => v = .ref p → Q .non H') (fun _ => True) KP) (ha : EvA K (fun cls d _ H => E cls d H) env ts ma) (h0 : env[0]? = some (some (.oi (some p) c [] []))) :
    Blk K F0 H0 KP (tSuper (He.ga K c) g (spI K c fM) E ts { nx := fun _ H' => Q .non H', rt := Q }) env (ma.bind fM) := fun F H σ S h => by
  obtain ⟨v, e, q, dx, vs0, rfl, hq0, hqf, hqH, hql, hqr, hpp⟩ := S.slot 0 _ h0
  have : q = p := hpp p rfl
  subst this
  refine ⟨q, dx, [], e, hqH, ha F0 H0 F H σ _ S ?_⟩
  cases ma with
  | ok y =>
    intro vs F1 H1 a1 r1
    have h : KP (fM y) := h
    have hq1 : H1 q = some (.ins (He.ga K c) dx []) := a1.h _ _ hqH
    have hf1 : F1 q = none := a1.out q hqf (by rw [hqH]; simp)
    refine ⟨F1, y, q, dx, vs, rfl, a1.in_, hf1, hq1, r1, ?_⟩
    have ad : ∀ {F' H' : Hp}, Adv F1 (hide H1 q) F' H' → Adv F0 H0 F' H' := fun {F' H'} b =>
      ⟨S.adv.f.trans (a1.f.trans b.f), fun a u z => b.h _ _ (by
        have hne : a ≠ q := fun w => by rw [w, hq0] at z; cases z
        rw [hide_ne hne]; exact a1.h _ _ (S.adv.h _ _ z)), b.in_, fun a z1 z2 => by
        have hne : a ≠ q := fun w => z2 (by rw [w]; exact hq0)
        have z3 : H a ≠ none := fun w => z2 (none_of_ex S.adv.h w)
        have z4 : H1 a ≠ none := fun w => z3 (none_of_ex a1.h w)
        exact b.out a (a1.out a (S.adv.out a z1 z2) z3) (by rw [hide_ne hne]; exact z4)⟩
    revert h
    generalize fM y = z
    intro h
    cases z with
    | ok z => exact fun F' H' b r => L.ok z h _ F' H' (ad b) r rfl
    | exc e => exact fun F' H' b => L.exc e F' H' σ (List.replicate σ.length none) h trivial ⟨ad b, fun i sk z => (by rw [List.getElem?_replicate] at z; split at z <;> cases z), fun i j sk sk' p hij z => (by rw [List.getElem?_replicate] at z; split at z <;> cases z), by simp⟩
    | stuck => exact (L.no h).elim
  | exc e => exact fun F' H' a => L.exc e F' H' σ env h trivial (S.step a)
  | stuck => exact (L.no h).elim
end
end Mi
set_option maxHeartbeats 1000000
namespace Mi
open PySem PySem.Spec L2
/-! ### what follows, in plain mathematics -/
theorem need_bind {α β : Type} {p : Prop} (m : Res α) (f : α → Res β) : (Res.need p m).bind f = Res.need p (m.bind f) := by
  by_cases h : p
  · rw [Res.need_pos h, Res.need_pos h]
  · rw [Res.need_neg h, Res.need_neg h]; rfl
theorem cond_dec {α : Type} {p : Prop} [Decidable p] (a b : α) : cond (decide p) a b = if p then a else b := by
  by_cases h : p <;> simp [h]
theorem cond_not {α : Type} {p : Bool} (a b : α) : cond (!p) a b = cond p b a := by cases p <;> rfl
theorem ibits_le {i : Int} {n : Nat} (h : Builtin.Int.intBits i ≤ n) : i.natAbs < 2 ^ n := by
  unfold Builtin.Int.intBits at h
  split at h
  · rename_i h0
    have : i = 0 := by simpa using h0
    subst this
    exact Nat.two_pow_pos n
  · rename_i h0
    have hne : i.natAbs ≠ 0 := by
      intro z
      apply h0
      have : i = 0 := Int.natAbs_eq_zero.mp z
      simp [this]
    have h1 : i.natAbs.log2 < n := by omega
    exact (Nat.log2_lt hne).mp h1
theorem le_ibits {i : Int} {n : Nat} (h : i.natAbs < 2 ^ n) : Builtin.Int.intBits i ≤ n := by
  unfold Builtin.Int.intBits
  split
  · exact Nat.zero_le _
  · rename_i h0
    have hne : i.natAbs ≠ 0 := by
      intro z
      apply h0
      have : i = 0 := Int.natAbs_eq_zero.mp z
      simp [this]
    have := (Nat.log2_lt hne).mpr h
    omega
theorem cmulx {i j : Int} {a b : Nat} (ha : i.natAbs < 2 ^ a) (hb : j.natAbs < 2 ^ b) (h : a + b ≤ 134217728) : CMulX i j := mulx_ok ha hb h
theorem need_mulx {α : Type} {i j : Int} {m : Res α} {a b : Nat} (ha : i.natAbs < 2 ^ a) (hb : j.natAbs < 2 ^ b) (h : a + b ≤ 134217728) : Res.need (CMulX i j) m = m := Res.need_pos (cmulx ha hb h)
theorem pow_add_lt {x y a b : Nat} (ha : x < 2 ^ a) (hb : y < 2 ^ b) : x * y < 2 ^ (a + b) := by
  rw [Nat.pow_add]; exact Nat.mul_lt_mul'' ha hb
theorem idx_nat {α : Type} {xs : List α} {j : Nat} {v : α} (h : xs[j]? = some v) : idx xs (j : Int) = .ok v := by
  unfold idx; rw [atI_nat h]
theorem idx_int {α : Type} {xs : List α} {i : Int} {v : α} (h0 : 0 ≤ i) (h : xs[i.toNat]? = some v) : idx xs i = .ok v := by
  have : i = (i.toNat : Int) := by omega
  rw [this]; exact idx_nat h
theorem idx_last {α : Type} (xs : List α) (v : α) : idx (xs ++ [v]) (-1) = .ok v := by
  unfold idx; rw [atI_last]
theorem pow31 : ((2 : Int) ^ (31 : Int).toNat) = 2147483648 := by decide +kernel
theorem pow18 : ((10 : Int) ^ (18 : Int).toNat) = 1000000000000000000 := by decide +kernel
theorem m31_lt : (2147483648 : Int).natAbs < 2 ^ 32 := by decide +kernel
theorem compL_none {α β : Type} {t : α → Res Bool} {e : α → Res β} {xs : List α} (h : ∀ x ∈ xs, t x = .ok false) : compL t e xs = .ok [] := by
  induction xs with
  | nil => rfl
  | cons x r ih =>
    show (t x).bind _ = _
    rw [h x List.mem_cons_self]
    exact ih fun y hy => h y (List.mem_cons_of_mem _ hy)
theorem compL_map {α β : Type} {t : α → Res Bool} {e : α → Res β} {g : α → β} {xs : List α} (ht : ∀ x ∈ xs, t x = .ok true) (he : ∀ x ∈ xs, e x = .ok (g x)) : compL t e xs = .ok (xs.map g) := by
  induction xs with
  | nil => rfl
  | cons x r ih =>
    show (t x).bind _ = _
    rw [ht x List.mem_cons_self]
    show (e x).bind _ = _
    rw [he x List.mem_cons_self]
    show (compL t e r).bind _ = _
    rw [ih (fun y hy => ht y (List.mem_cons_of_mem _ hy)) fun y hy => he y (List.mem_cons_of_mem _ hy)]
    rfl
theorem bit1 (x : Int) : Builtin.bitAnd x 1 = x % 2 := by
  have := PySem.W.kbt_mask x 1
  simpa using this
theorem bind_ite {α β : Type} {p : Prop} [Decidable p] (a b : Res α) (f : α → Res β) : (if p then a else b).bind f = if p then a.bind f else b.bind f := by split <;> rfl
theorem idx_getLast {α : Type} {xs : List α} {v : α} (h : xs.getLast? = some v) : idx xs (-1) = .ok v := by
  obtain ⟨ys, rfl⟩ := List.getLast?_eq_some_iff.mp h
  exact idx_last ys v
/-! == of data -/
theorem pyEq_int (i j : Int) : pyEq (.int i) (.int j) = (i == j) := by simp [pyEq, D.py, PyData.eqv]
mutual
/-- no truth values within -/
def D.nob : D → Bool
  | .bl _ => false
  | .ty _ => false
  | .obj _ _ _ => false
  | .ro _ => false
  | .dct _ _ => false
  | .tup xs => nobL xs
  | .lst xs => nobL xs
  | _ => true
def nobL : List D → Bool
  | [] => true
  | x :: xs => D.nob x && nobL xs
end
mutual
theorem pyEq_iff : ∀ (x y : D), x.nob = true → y.nob = true → (PyData.eqv x.py y.py = true ↔ x = y)
  | .non, y, _, h => by cases y <;> simp_all [D.py, PyData.eqv, D.nob]
  | .int i, y, _, h => by cases y <;> simp_all [D.py, PyData.eqv, D.nob]
  | .str s, y, _, h => by cases y <;> simp_all [D.py, PyData.eqv, D.nob]
  | .bl b, y, h, _ => by cases h
  | .ty b, y, h, _ => by cases h
  | .obj a b c, y, h, _ => by cases h
  | .ro a, y, h, _ => by cases h
  | .dct a b, y, h, _ => by cases h
  | .tup xs, y, h1, h => by
    cases y with
    | tup ys =>
      have := pyEqL_iff xs ys h1 h
      simp only [D.py, PyData.eqv, D.tup.injEq]; exact this
    | bl b => cases h
    | ty b => cases h
    | obj a b c => cases h
    | ro a => cases h
    | dct a b => cases h
    | _ => simp [D.py, PyData.eqv]
  | .lst xs, y, h1, h => by
    cases y with
    | lst ys =>
      have := pyEqL_iff xs ys h1 h
      simp only [D.py, PyData.eqv, D.lst.injEq]; exact this
    | bl b => cases h
    | ty b => cases h
    | obj a b c => cases h
    | ro a => cases h
    | dct a b => cases h
    | _ => simp [D.py, PyData.eqv]
theorem pyEqL_iff : ∀ (xs ys : List D), nobL xs = true → nobL ys = true → (PyData.eqvAll (pyL xs) (pyL ys) = true ↔ xs = ys)
  | [], ys, _, h => by cases ys <;> simp [pyL, PyData.eqvAll]
  | x :: xs, ys, h1, h => by
    cases ys with
    | nil => simp [pyL, PyData.eqvAll]
    | cons y ys =>
      obtain ⟨a1, a2⟩ := Bool.and_eq_true_iff.mp (show (D.nob x && nobL xs) = true from h1)
      obtain ⟨b1, b2⟩ := Bool.and_eq_true_iff.mp (show (D.nob y && nobL ys) = true from h)
      simp only [pyL, PyData.eqvAll, Bool.and_eq_true, pyEq_iff x y a1 b1, pyEqL_iff xs ys a2 b2, List.cons.injEq]
end
theorem pyEq_dec {x y : D} (hx : x.nob = true) (hy : y.nob = true) : pyEq x y = true ↔ x = y := pyEq_iff x y hx hy
theorem pyEq_self {x : D} (hx : x.nob = true) : pyEq x x = true := (pyEq_dec hx hx).mpr rfl
theorem pyEq_ne {x y : D} (hx : x.nob = true) (hy : y.nob = true) (h : x ≠ y) : pyEq x y = false := by
  cases e : pyEq x y with
  | false => rfl
  | true => exact absurd ((pyEq_dec hx hy).mp e) h
theorem nob_ints : ∀ xs : List Int, nobL (xs.map D.int) = true
  | [] => rfl
  | _ :: xs => nob_ints xs
theorem nob_strs : ∀ xs : List Str, nobL (xs.map D.str) = true
  | [] => rfl
  | _ :: xs => nob_strs xs
theorem flat_ints : ∀ xs : List Int, flatL (xs.map D.int) = true
  | [] => rfl
  | _ :: xs => flat_ints xs
theorem lay_ints : ∀ xs : List Int, PyData.canLayAll0 (pyL (xs.map D.int)) = true
  | [] => rfl
  | _ :: xs => by show (true && _) = true; rw [lay_ints xs]; rfl
theorem dep_ints : ∀ xs : List Int, PyData.depthAll (pyL (xs.map D.int)) = 0
  | [] => rfl
  | _ :: xs => by show max 0 _ = 0; rw [dep_ints xs]; rfl
theorem okq_ints (xs : List Int) : (toD xs).okq = true := by
  show (flatL (xs.map D.int) && (PyData.canLayAll0 (pyL (xs.map D.int)) && decide (PyData.depthAll (pyL (xs.map D.int)) + 1 ≤ 64))) = true
  rw [flat_ints, lay_ints, dep_ints]; rfl
theorem toD_ints_inj {xs ys : List Int} (h : toD xs = toD ys) : xs = ys := by
  have h : xs.map D.int = ys.map D.int := D.lst.inj h
  exact List.map_inj_right (fun a b q => D.int.inj q) |>.mp h
theorem pyEq_ints (xs ys : List Int) : pyEq (toD xs) (toD ys) = decide (xs = ys) := by
  by_cases h : xs = ys
  · subst h; rw [pyEq_self (show (toD xs).nob = true from nob_ints xs)]; simp
  · rw [pyEq_ne (show (toD xs).nob = true from nob_ints xs) (show (toD ys).nob = true from nob_ints ys) fun e => h (toD_ints_inj e)]; simp [h]
theorem lmin_mem {es : List Int} (h : 0 < es.length) : lmin es ∈ es := by
  cases es with
  | nil => simp at h
  | cons x r =>
    rcases foldl_min_mem r x with q | q
    · show r.foldl min x ∈ x :: r
      rw [q]; exact List.mem_cons_self
    · exact List.mem_cons_of_mem _ q
theorem lmax_mem {es : List Int} (h : 0 < es.length) : lmax es ∈ es := by
  cases es with
  | nil => simp at h
  | cons x r =>
    rcases foldl_max_mem r x with q | q
    · show r.foldl max x ∈ x :: r
      rw [q]; exact List.mem_cons_self
    · exact List.mem_cons_of_mem _ q
theorem pyRange_drop {n i : Nat} (h : i < n) : (pyRange 0 (n : Int)).drop i = (i : Int) :: (pyRange 0 (n : Int)).drop (i + 1) := by
  have hl : (pyRange 0 (n : Int)).length = n := by rw [pyRange_len]; omega
  rw [List.drop_eq_getElem_cons (by omega)]
  congr 1
  have := pyRange_get (lo := 0) (hi := (n : Int)) (i := i) (by omega)
  rw [List.getElem?_eq_getElem (by omega)] at this
  have := Option.some.inj this
  omega
theorem pyRange_nonneg {k n : Int} (h : k ∈ pyRange 0 n) : 0 ≤ k := by
  obtain ⟨i, _, rfl⟩ := List.mem_map.mp h
  omega
theorem toD_D (x : D) : toD x = x := rfl
theorem okq_int (i : Int) : (toD (D.int i)).okq = true := rfl
theorem compL_get {α β : Type} (f : α → Res β) {xs : List α} {ys : List β} (h : xs.length = ys.length) (he : ∀ i (h1 : i < xs.length) (h2 : i < ys.length), f xs[i] = .ok ys[i]) : compL (fun _ => .ok true) f xs = .ok ys := by
  induction xs generalizing ys with
  | nil => cases ys with
    | nil => rfl
    | cons y r => simp at h
  | cons x xs ih =>
    cases ys with
    | nil => simp at h
    | cons y ys =>
      show (f x).bind _ = _
      rw [show f x = .ok y from he 0 (by simp) (by simp)]
      show (compL (fun _ => .ok true) f xs).bind _ = _
      rw [ih (by simpa using h) fun i h1 h2 => he (i + 1) (by simp; omega) (by simp; omega)]
      rfl
end Mi
set_option maxHeartbeats 1000000
namespace Mi
/-! ### primes -/
def IsP (n : Nat) : Prop := 2 ≤ n ∧ ∀ d, d ∣ n → d = 1 ∨ d = n
theorem IsP.cop {p a : Nat} (h : IsP p) (ha : ¬ p ∣ a) : Nat.Coprime p a := by
  rcases h.2 _ (Nat.gcd_dvd_left p a) with e | e
  · exact e
  · exact absurd (e ▸ Nat.gcd_dvd_right p a) ha
theorem IsP.dvd_mul {p a b : Nat} (h : IsP p) (hd : p ∣ a * b) : p ∣ a ∨ p ∣ b := by
  by_cases ha : p ∣ a
  · exact .inl ha
  · exact .inr ((h.cop ha).dvd_of_dvd_mul_left hd)
theorem IsP.dvd_pow {p a : Nat} (h : IsP p) : ∀ k, p ∣ a ^ k → p ∣ a
  | 0, hd => by
    rw [Nat.pow_zero] at hd
    have := Nat.le_of_dvd (by decide) hd
    have := h.1
    omega
  | k + 1, hd => by
    rw [Nat.pow_succ] at hd
    rcases h.dvd_mul hd with q | q
    · exact h.dvd_pow k q
    · exact q
def prodL (l : List Nat) : Nat := l.foldr (· * ·) 1
theorem prodL_perm {l m : List Nat} (h : l.Perm m) : prodL l = prodL m := by
  induction h with
  | nil => rfl
  | cons x _ ih => simp only [prodL, List.foldr_cons] at *; rw [ih]
  | swap x y l => simp only [prodL, List.foldr_cons]; rw [Nat.mul_left_comm]
  | trans _ _ h1 h2 => exact h1.trans h2
theorem perm_of_sub : ∀ (l L : List Nat), l.Nodup → (∀ x ∈ l, x ∈ L) → L.length ≤ l.length → l.Perm L := by
  intro l
  induction l with
  | nil =>
    intro L _ _ h
    have : L = [] := List.eq_nil_of_length_eq_zero (by simpa using h)
    subst this; exact List.Perm.nil
  | cons x r ih =>
    intro L hn hs hl
    obtain ⟨n1, n2⟩ := List.nodup_cons.mp hn
    have hx := hs x List.mem_cons_self
    have e := List.length_erase_of_mem hx
    have hp := List.length_pos_of_mem hx
    have q := ih (L.erase x) n2 (fun y hy => (List.mem_erase_of_ne (by intro z; subst z; exact n1 hy)).mpr (hs y (List.mem_cons_of_mem _ hy))) (by rw [e]; simp at hl; omega)
    exact (q.cons x).trans (List.perm_cons_erase hx).symm
theorem prod_mod (a p : Nat) : ∀ l : List Nat, prodL (l.map fun x => a * x % p) % p = a ^ l.length * prodL l % p := by
  intro l
  induction l with
  | nil => simp [prodL]
  | cons x r ih =>
    show (a * x % p) * prodL (r.map fun x => a * x % p) % p = a ^ (r.length + 1) * (x * prodL r) % p
    rw [Nat.mul_mod, ih, Nat.mod_mod, ← Nat.mul_mod]
    congr 1
    rw [Nat.pow_succ]
    ac_rfl
theorem prod_cop {p : Nat} (h : IsP p) : ∀ l : List Nat, (∀ x ∈ l, 0 < x ∧ x < p) → ¬ p ∣ prodL l := by
  intro l
  induction l with
  | nil =>
    intro _ hd
    have := Nat.le_of_dvd (by decide) hd
    have := h.1
    simp [prodL] at *; omega
  | cons x r ih =>
    intro hx hd
    rcases h.dvd_mul hd with q | q
    · have := hx x List.mem_cons_self
      have := Nat.le_of_dvd this.1 q
      omega
    · exact ih (fun y hy => hx y (List.mem_cons_of_mem _ hy)) q
theorem dvd_sub_of_mod {x y p : Nat} (h : y ≤ x) (e : x % p = y % p) : p ∣ x - y := Nat.dvd_of_mod_eq_zero (Nat.sub_mod_eq_zero_of_mod_eq e)
theorem inj_mod {p a x y : Nat} (h : IsP p) (ha : ¬ p ∣ a) (hx : x < p) (hy : y < p) (e : a * x % p = a * y % p) : x = y := by
  rcases Nat.le_total y x with q | q
  · have d := dvd_sub_of_mod (Nat.mul_le_mul_left a q) e
    rw [← Nat.mul_sub] at d
    rcases h.dvd_mul d with d | d
    · exact absurd d ha
    · have := Nat.eq_zero_of_dvd_of_lt d (by omega); omega
  · have d := dvd_sub_of_mod (Nat.mul_le_mul_left a q) e.symm
    rw [← Nat.mul_sub] at d
    rcases h.dvd_mul d with d | d
    · exact absurd d ha
    · have := Nat.eq_zero_of_dvd_of_lt d (by omega); omega
/-- Fermat -/
theorem fermat {p a : Nat} (h : IsP p) (ha : ¬ p ∣ a) : a ^ (p - 1) % p = 1 := by
  have h2 := h.1
  have hL : ∀ x ∈ List.range' 1 (p - 1), 0 < x ∧ x < p := fun x hx => by
    have := List.mem_range'_1.mp hx; omega
  have nd : (List.range' 1 (p - 1)).Nodup := List.nodup_range'
  have pm : ((List.range' 1 (p - 1)).map fun x => a * x % p).Perm (List.range' 1 (p - 1)) := by
    refine perm_of_sub _ _ ?_ ?_ (by simp)
    · refine List.pairwise_map.mpr (List.Pairwise.imp_of_mem (fun {x y} hx hy q e => q (inj_mod h ha (hL x hx).2 (hL y hy).2 e)) nd)
    · intro y hy
      obtain ⟨x, hx, rfl⟩ := List.mem_map.mp hy
      have q := hL x hx
      have lt := Nat.mod_lt (a * x) (show 0 < p by omega)
      refine List.mem_range'_1.mpr ⟨Nat.pos_of_ne_zero fun z => ?_, by omega⟩
      rcases h.dvd_mul (Nat.dvd_of_mod_eq_zero z) with d | d
      · exact ha d
      · have := Nat.le_of_dvd q.1 d; omega
  have e := prod_mod a p (List.range' 1 (p - 1))
  rw [prodL_perm pm, List.length_range'] at e
  have nc := prod_cop h _ hL
  generalize prodL (List.range' 1 (p - 1)) = P at *
  have hpos : 0 < a := Nat.pos_of_ne_zero fun z => ha (z ▸ Nat.dvd_zero p)
  have h1 : 1 ≤ a ^ (p - 1) := Nat.pow_pos hpos
  have d := dvd_sub_of_mod (x := a ^ (p - 1) * P) (y := P) (by
    have := Nat.mul_le_mul_right P h1; omega) e.symm
  have e3 : a ^ (p - 1) * P - P = (a ^ (p - 1) - 1) * P := by rw [Nat.sub_mul, Nat.one_mul]
  rw [e3] at d
  rcases h.dvd_mul d with d | d
  · obtain ⟨k, hk⟩ := d
    have : a ^ (p - 1) = 1 + p * k := by omega
    rw [this, Nat.add_mul_mod_self_left, Nat.mod_eq_of_lt (by omega)]
  · exact absurd d nc
theorem pow_mod_one {b m : Nat} (hm : 1 < m) {i : Nat} (h : b ^ i % m = 1) (k : Nat) : b ^ (i * k) % m = 1 := by
  rw [Nat.pow_mul, Nat.pow_mod, h, Nat.one_pow, Nat.mod_eq_of_lt hm]
theorem pow_gcd {b m : Nat} (hm : 1 < m) (i j : Nat) : b ^ i % m = 1 → b ^ j % m = 1 → b ^ Nat.gcd i j % m = 1 := by
  induction i, j using Nat.gcd.induction with
  | H0 n => intro _ h; rwa [Nat.gcd_zero_left]
  | H1 i j hi ih =>
    intro h1 h2
    rw [Nat.gcd_rec]
    refine ih ?_ h1
    have e := Nat.div_add_mod j i
    rw [← e, Nat.pow_add, Nat.mul_mod, pow_mod_one hm h1, Nat.one_mul, Nat.mod_mod] at h2
    exact h2
/-- every prime factor of n is 1 above a multiple of q -/
theorem pock {n a q : Nat} (hq : IsP q) (hd : q ∣ n - 1) (h1 : a ^ (n - 1) % n = 1) (hg : Nat.gcd (a ^ ((n - 1) / q) % n - 1) n = 1) (h0 : 0 < a ^ ((n - 1) / q) % n) {p : Nat} (hp : IsP p) (hpn : p ∣ n) : q ∣ p - 1 := by
  have p2 := hp.1
  have hb : (a ^ ((n - 1) / q)) ^ q % p = 1 := by
    rw [← Nat.pow_mul, Nat.div_mul_cancel hd, ← Nat.mod_mod_of_dvd _ hpn, h1, Nat.mod_eq_of_lt (by omega)]
  have hnd : ¬ p ∣ a ^ ((n - 1) / q) := fun d => by
    have : p ∣ (a ^ ((n - 1) / q)) ^ q := by
      have hq0 : q = (q - 1) + 1 := by have := hq.1; omega
      generalize a ^ ((n - 1) / q) = b at *
      rw [hq0, Nat.pow_succ]
      exact Nat.dvd_trans d (Nat.dvd_mul_left ..)
    rw [Nat.mod_eq_zero_of_dvd this] at hb; cases hb
  have f := fermat hp hnd
  have g := pow_gcd (by omega) q (p - 1) hb f
  rcases hq.2 _ (Nat.gcd_dvd_left q (p - 1)) with e | e
  · rw [e, Nat.pow_one] at g
    have d : p ∣ a ^ ((n - 1) / q) % n - 1 := by
      refine dvd_sub_of_mod (by omega) ?_
      rw [Nat.mod_mod_of_dvd _ hpn, g, Nat.mod_eq_of_lt (by omega)]
    have := Nat.dvd_gcd d hpn
    rw [hg] at this
    have := Nat.le_of_dvd (by decide) this
    omega
  · exact e ▸ Nat.gcd_dvd_right q (p - 1)
theorem has_prime : ∀ (n : Nat), 2 ≤ n → ∃ p, IsP p ∧ p ∣ n := by
  intro n
  induction n using Nat.strongRecOn with
  | ind n ih =>
    intro h
    by_cases hp : IsP n
    · exact ⟨n, hp, Nat.dvd_refl n⟩
    · have : ∃ d, d ∣ n ∧ d ≠ 1 ∧ d ≠ n := by
        refine Classical.byContradiction fun c => hp ⟨h, fun d hd => ?_⟩
        refine Classical.byContradiction fun e => c ⟨d, hd, fun z => e (.inl z), fun z => e (.inr z)⟩
      obtain ⟨d, hd, h1, h2⟩ := this
      have hle := Nat.le_of_dvd (by omega) hd
      have h0 : d ≠ 0 := fun z => by subst z; have := Nat.eq_zero_of_zero_dvd hd; omega
      obtain ⟨p, p1, p2⟩ := ih d (by omega) (by omega)
      exact ⟨p, p1, Nat.dvd_trans p2 hd⟩
/-- no prime factor up to the root: a prime -/
theorem isP_of {n : Nat} (h2 : 2 ≤ n) (h : ∀ p, IsP p → p ∣ n → n < p * p) : IsP n := by
  refine ⟨h2, fun d hd => Classical.byContradiction fun c => ?_⟩
  have hle := Nat.le_of_dvd (by omega) hd
  have h0 : d ≠ 0 := fun z => by subst z; have := Nat.eq_zero_of_zero_dvd hd; omega
  have h1 : d ≠ 1 := fun z => c (.inl z)
  have h3 : d ≠ n := fun z => c (.inr z)
  obtain ⟨e, rfl⟩ := hd
  have e2 : 2 ≤ e := by
    rcases (by omega : e = 0 ∨ e = 1 ∨ 2 ≤ e) with rfl | rfl | q
    · omega
    · omega
    · exact q
  obtain ⟨p, p1, p2⟩ := has_prime d (by omega)
  obtain ⟨q, q1, q2⟩ := has_prime e e2
  have a1 := h p p1 (Nat.dvd_trans p2 (Nat.dvd_mul_right d e))
  have a2 := h q q1 (Nat.dvd_trans q2 (Nat.dvd_mul_left e d))
  have b1 := Nat.le_of_dvd (by omega) p2
  have b2 := Nat.le_of_dvd (by omega) q2
  have b3 := Nat.mul_le_mul b1 b2
  rcases Nat.le_total p q with z | z
  · have := Nat.mul_le_mul_left p z; omega
  · have := Nat.mul_le_mul_right q z; omega
/-- the power's residue, as the kernel works it out -/
def pwm (n : Nat) : Nat → Nat → Nat → Nat → Nat
  | 0, _, _, acc => acc
  | f + 1, b, e, acc => pwm n f (b * b % n) (e / 2) (if e % 2 = 1 then acc * b % n else acc)
theorem pwm_eq (n : Nat) : ∀ (f b e acc : Nat), e < 2 ^ f → pwm n f b e acc % n = acc * b ^ e % n := by
  intro f
  induction f with
  | zero => intro b e acc h; have : e = 0 := by simpa using h
            subst this; simp [pwm]
  | succ f ih =>
    intro b e acc h
    rw [pwm, ih _ _ _ (by rw [Nat.pow_succ] at h; omega)]
    have e2 : b ^ e = (b * b) ^ (e / 2) * b ^ (e % 2) := by
      rw [← Nat.pow_two, ← Nat.pow_mul, ← Nat.pow_add, Nat.div_add_mod]
    rw [e2, Nat.mul_mod, ← Nat.pow_mod, ← Nat.mul_mod]
    rcases (by omega : e % 2 = 0 ∨ e % 2 = 1) with z | z
    · rw [z, if_neg (by decide), Nat.pow_zero, Nat.mul_one]
    · rw [z, if_pos rfl, Nat.pow_one, Nat.mul_mod, Nat.mod_mod, ← Nat.mul_mod]
      congr 1; ac_rfl
theorem pwm_one {n f b e : Nat} (h : e < 2 ^ f) : pwm n f b e 1 % n = b ^ e % n := by rw [pwm_eq n f b e 1 h, Nat.one_mul]
/-- one prime q of n - 1, by numbers -/
def pkOk (n a q f : Nat) : Bool := decide (q ∣ n - 1) && decide (n - 1 < 2 ^ f) && decide (pwm n f a (n - 1) 1 % n = 1) && decide (Nat.gcd (pwm n f a ((n - 1) / q) 1 % n - 1) n = 1) && decide (0 < pwm n f a ((n - 1) / q) 1 % n)
theorem pk_of {n a q f : Nat} (hq : IsP q) (h : pkOk n a q f = true) {p : Nat} (hp : IsP p) (hpn : p ∣ n) : q ∣ p - 1 := by
  simp only [pkOk, Bool.and_eq_true, decide_eq_true_eq] at h
  obtain ⟨⟨⟨⟨h1, h2⟩, h3⟩, h4⟩, h5⟩ := h
  have h6 : (n - 1) / q < 2 ^ f := Nat.lt_of_le_of_lt (Nat.div_le_self ..) h2
  rw [pwm_one h2] at h3
  rw [pwm_one h6] at h4 h5
  exact pock hq h1 h3 h4 h5 hp hpn
theorem small_prime {n : Nat} (h2 : 2 ≤ n) (h : ∀ d, 2 ≤ d → d * d ≤ n → ¬ d ∣ n) : IsP n :=
  isP_of h2 fun p hp hd => Nat.lt_of_not_le fun z => h p hp.1 z hd
def noDiv (n : Nat) : Nat → Nat → Bool
  | 0, _ => true
  | f + 1, d => !decide (n % d = 0) && noDiv n f (d + 1)
theorem noDiv_ok (n : Nat) : ∀ (f d : Nat), noDiv n f d = true → ∀ k, d ≤ k → k < d + f → ¬ k ∣ n
  | 0, d, _, k, h1, h2 => by omega
  | f + 1, d, h, k, h1, h2 => by
    rw [noDiv, Bool.and_eq_true] at h
    obtain ⟨a, b⟩ := h
    by_cases e : k = d
    · subst e
      intro z
      rw [Nat.mod_eq_zero_of_dvd z] at a
      simp at a
    · exact noDiv_ok n f (d + 1) b k (by omega) (by omega)
theorem prime_by {n f : Nat} (h2 : 2 ≤ n) (hf : n < (f + 2) * (f + 2)) (h : noDiv n f 2 = true) : IsP n :=
  small_prime h2 fun d h3 h4 h5 => noDiv_ok n f 2 h d h3 (Nat.lt_of_not_le fun z => by
    have := Nat.mul_le_mul z z
    rw [Nat.add_comm] at hf
    omega) h5
theorem IsP.eq_of_dvd {p q : Nat} (hp : IsP p) (hq : IsP q) (h : p ∣ q) : p = q := by
  rcases hq.2 p h with e | e
  · have := hp.1; omega
  · exact e
theorem IsP.dvd_prod {p : Nat} (h : IsP p) : ∀ l : List Nat, (∀ x ∈ l, IsP x) → p ∣ prodL l → p ∈ l := by
  intro l
  induction l with
  | nil =>
    intro _ hd
    have hd : p ∣ 1 := hd
    have := Nat.le_of_dvd (by decide) hd
    have := h.1
    omega
  | cons x r ih =>
    intro hx hd
    rcases h.dvd_mul hd with q | q
    · rw [h.eq_of_dvd (hx x List.mem_cons_self) q]; exact List.mem_cons_self
    · exact List.mem_cons_of_mem _ (ih (fun y hy => hx y (List.mem_cons_of_mem _ hy)) q)
theorem prod_dvd : ∀ (l : List Nat) (m : Nat), l.Nodup → (∀ x ∈ l, IsP x) → (∀ x ∈ l, x ∣ m) → prodL l ∣ m := by
  intro l
  induction l with
  | nil => intro m _ _ _; exact Nat.one_dvd m
  | cons x r ih =>
    intro m hn hp hd
    obtain ⟨n1, n2⟩ := List.nodup_cons.mp hn
    have hx := hp x List.mem_cons_self
    have hr := fun y hy => hp y (List.mem_cons_of_mem x hy)
    have c := hx.cop (fun z => n1 (hx.dvd_prod r hr z))
    exact Nat.Coprime.mul_dvd_of_dvd_of_dvd c (hd x List.mem_cons_self) (ih m n2 hr fun y hy => hd y (List.mem_cons_of_mem _ hy))
theorem isP_pock {n f : Nat} (h2 : 2 ≤ n) (qs : List (Nat × Nat)) (hp : ∀ x ∈ qs, IsP x.1) (hk : (qs.all fun x => pkOk n x.2 x.1 f) = true) (hd : (qs.map (·.1)).Nodup) (hF : n < (prodL (qs.map (·.1)) + 1) * (prodL (qs.map (·.1)) + 1)) : IsP n := by
  refine isP_of h2 fun p p1 p2 => ?_
  have d := prod_dvd (qs.map (·.1)) (p - 1) hd (fun x hx => by
    obtain ⟨y, hy, rfl⟩ := List.mem_map.mp hx
    exact hp y hy) (fun x hx => by
    obtain ⟨y, hy, rfl⟩ := List.mem_map.mp hx
    exact pk_of (hp y hy) (List.all_eq_true.mp hk y hy) p1 p2)
  have := p1.1
  have le := Nat.le_of_dvd (by omega) d
  have := Nat.mul_le_mul (show prodL (qs.map (·.1)) + 1 ≤ p by omega) (show prodL (qs.map (·.1)) + 1 ≤ p by omega)
  omega
theorem p61 : IsP 1321 ∧ IsP 331 ∧ IsP 151 ∧ IsP 61 := ⟨prime_by (f := 40) (by decide) (by decide) (by decide +kernel), prime_by (f := 40) (by decide) (by decide) (by decide +kernel), prime_by (f := 40) (by decide) (by decide) (by decide +kernel), prime_by (f := 40) (by decide) (by decide) (by decide +kernel)⟩
theorem prime_m61 : IsP 2305843009213693951 := isP_pock (f := 61) (by decide) [(1321, 3), (331, 3), (151, 3), (61, 2)] (by simp only [List.forall_mem_cons]; exact ⟨p61.1, p61.2.1, p61.2.2.1, p61.2.2.2, by simp⟩) (by decide +kernel) (by decide +kernel) (by decide +kernel)
theorem prime_m31 : IsP 2147483647 := isP_pock (f := 31) (by decide) [(331, 3), (151, 3)] (by simp only [List.forall_mem_cons]; exact ⟨p61.2.1, p61.2.2.1, by simp⟩) (by decide +kernel) (by decide +kernel) (by decide +kernel)
theorem pr_8574133 : IsP 8574133 := prime_by (f := 2928) (by decide) (by decide) (by decide +kernel)
theorem pr_127 : IsP 127 := prime_by (f := 11) (by decide) (by decide) (by decide +kernel)
theorem pr_1919519569386763 : IsP 1919519569386763 := isP_pock (f := 51) (by decide) [(8574133, 2), (127, 2)] (by simp only [List.forall_mem_cons]; exact ⟨pr_8574133, pr_127, by simp⟩) (by decide +kernel) (by decide +kernel) (by decide +kernel)
theorem pr_569003 : IsP 569003 := prime_by (f := 754) (by decide) (by decide) (by decide +kernel)
theorem pr_2773320623 : IsP 2773320623 := isP_pock (f := 32) (by decide) [(569003, 2)] (by simp only [List.forall_mem_cons]; exact ⟨pr_569003, by simp⟩) (by decide +kernel) (by decide +kernel) (by decide +kernel)
theorem pr_72106336199 : IsP 72106336199 := isP_pock (f := 37) (by decide) [(2773320623, 2)] (by simp only [List.forall_mem_cons]; exact ⟨pr_2773320623, by simp⟩) (by decide +kernel) (by decide +kernel) (by decide +kernel)
theorem pr_75445702479781427272750846543864801 : IsP 75445702479781427272750846543864801 := isP_pock (f := 116) (by decide) [(1919519569386763, 2), (72106336199, 2)] (by simp only [List.forall_mem_cons]; exact ⟨pr_1919519569386763, pr_72106336199, by simp⟩) (by decide +kernel) (by decide +kernel) (by decide +kernel)
theorem pr_430751 : IsP 430751 := prime_by (f := 656) (by decide) (by decide) (by decide +kernel)
theorem pr_4153 : IsP 4153 := prime_by (f := 64) (by decide) (by decide) (by decide +kernel)
theorem pr_31757755568855353 : IsP 31757755568855353 := isP_pock (f := 55) (by decide) [(430751, 2), (4153, 2)] (by simp only [List.forall_mem_cons]; exact ⟨pr_430751, pr_4153, by simp⟩) (by decide +kernel) (by decide +kernel) (by decide +kernel)
theorem pr_74058212732561358302231226437062788676166966415465897661863160754340907 : IsP 74058212732561358302231226437062788676166966415465897661863160754340907 := isP_pock (f := 236) (by decide) [(75445702479781427272750846543864801, 2), (31757755568855353, 2)] (by simp only [List.forall_mem_cons]; exact ⟨pr_75445702479781427272750846543864801, pr_31757755568855353, by simp⟩) (by decide +kernel) (by decide +kernel) (by decide +kernel)
theorem pr_57896044618658097711785492504343953926634992332820282019728792003956564819949 : IsP 57896044618658097711785492504343953926634992332820282019728792003956564819949 := isP_pock (f := 255) (by decide) [(74058212732561358302231226437062788676166966415465897661863160754340907, 2)] (by simp only [List.forall_mem_cons]; exact ⟨pr_74058212732561358302231226437062788676166966415465897661863160754340907, by simp⟩) (by decide +kernel) (by decide +kernel) (by decide +kernel)
theorem pr_53 : IsP 53 := prime_by (f := 7) (by decide) (by decide) (by decide +kernel)
theorem pr_29 : IsP 29 := prime_by (f := 5) (by decide) (by decide) (by decide +kernel)
theorem pr_7 : IsP 7 := prime_by (f := 2) (by decide) (by decide) (by decide +kernel)
theorem pr_107590001 : IsP 107590001 := isP_pock (f := 27) (by decide) [(53, 2), (29, 2), (7, 2)] (by simp only [List.forall_mem_cons]; exact ⟨pr_53, pr_29, pr_7, by simp⟩) (by decide +kernel) (by decide +kernel) (by decide +kernel)
theorem pr_7240687 : IsP 7240687 := prime_by (f := 2690) (by decide) (by decide) (by decide +kernel)
theorem pr_96557 : IsP 96557 := prime_by (f := 310) (by decide) (by decide) (by decide +kernel)
theorem pr_255515944373312847190720520512484175977 : IsP 255515944373312847190720520512484175977 := isP_pock (f := 128) (by decide) [(107590001, 2), (7240687, 2), (96557, 2)] (by simp only [List.forall_mem_cons]; exact ⟨pr_107590001, pr_7240687, pr_96557, by simp⟩) (by decide +kernel) (by decide +kernel) (by decide +kernel)
theorem pr_205115282021455665897114700593932402728804164701536103180137503955397371 : IsP 205115282021455665897114700593932402728804164701536103180137503955397371 := isP_pock (f := 237) (by decide) [(255515944373312847190720520512484175977, 2)] (by simp only [List.forall_mem_cons]; exact ⟨pr_255515944373312847190720520512484175977, by simp⟩) (by decide +kernel) (by decide +kernel) (by decide +kernel)
theorem pr_115792089237316195423570985008687907853269984665640564039457584007908834671663 : IsP 115792089237316195423570985008687907853269984665640564039457584007908834671663 := isP_pock (f := 256) (by decide) [(205115282021455665897114700593932402728804164701536103180137503955397371, 2)] (by simp only [List.forall_mem_cons]; exact ⟨pr_205115282021455665897114700593932402728804164701536103180137503955397371, by simp⟩) (by decide +kernel) (by decide +kernel) (by decide +kernel)
theorem pr_704251 : IsP 704251 := prime_by (f := 839) (by decide) (by decide) (by decide +kernel)
theorem pr_78283 : IsP 78283 := prime_by (f := 279) (by decide) (by decide) (by decide +kernel)
theorem pr_46076956964474543 : IsP 46076956964474543 := isP_pock (f := 56) (by decide) [(704251, 2), (78283, 2)] (by simp only [List.forall_mem_cons]; exact ⟨pr_704251, pr_78283, by simp⟩) (by decide +kernel) (by decide +kernel) (by decide +kernel)
theorem pr_3677 : IsP 3677 := prime_by (f := 60) (by decide) (by decide) (by decide +kernel)
theorem pr_197 : IsP 197 := prime_by (f := 14) (by decide) (by decide) (by decide +kernel)
theorem pr_66417393611 : IsP 66417393611 := isP_pock (f := 36) (by decide) [(3677, 2), (197, 2)] (by simp only [List.forall_mem_cons]; exact ⟨pr_3677, pr_197, by simp⟩) (by decide +kernel) (by decide +kernel) (by decide +kernel)
theorem pr_11290956913871 : IsP 11290956913871 := isP_pock (f := 44) (by decide) [(66417393611, 2)] (by simp only [List.forall_mem_cons]; exact ⟨pr_66417393611, by simp⟩) (by decide +kernel) (by decide +kernel) (by decide +kernel)
theorem pr_774023187263532362759620327192479577272145303 : IsP 774023187263532362759620327192479577272145303 := isP_pock (f := 150) (by decide) [(46076956964474543, 2), (11290956913871, 2)] (by simp only [List.forall_mem_cons]; exact ⟨pr_46076956964474543, pr_11290956913871, by simp⟩) (by decide +kernel) (by decide +kernel) (by decide +kernel)
theorem pr_835945042244614951780389953367877943453916927241 : IsP 835945042244614951780389953367877943453916927241 := isP_pock (f := 160) (by decide) [(774023187263532362759620327192479577272145303, 2)] (by simp only [List.forall_mem_cons]; exact ⟨pr_774023187263532362759620327192479577272145303, by simp⟩) (by decide +kernel) (by decide +kernel) (by decide +kernel)
theorem pr_115792089210356248762697446949407573530086143415290314195533631308867097853951 : IsP 115792089210356248762697446949407573530086143415290314195533631308867097853951 := isP_pock (f := 256) (by decide) [(835945042244614951780389953367877943453916927241, 2)] (by simp only [List.forall_mem_cons]; exact ⟨pr_835945042244614951780389953367877943453916927241, by simp⟩) (by decide +kernel) (by decide +kernel) (by decide +kernel)
end Mi
set_option maxHeartbeats 1000000
namespace Mi
/-! ### residues -/
theorem em_mul {p x y u v : Int} (h : x % p = u % p) (h2 : y % p = v % p) : x * y % p = u * v % p := by rw [Int.mul_emod, h, h2, ← Int.mul_emod]
theorem em_pow {p x u : Int} (h : x % p = u % p) : ∀ k : Nat, x ^ k % p = u ^ k % p
  | 0 => by rw [Int.pow_zero, Int.pow_zero]
  | k + 1 => by rw [Int.pow_succ, Int.pow_succ]; exact em_mul (em_pow h k) h
theorem em_em (x p : Int) : x % p % p = x % p := Int.emod_emod_of_dvd x (Int.dvd_refl p)
theorem em_dvd {p x y : Int} (h : x % p = y % p) : p ∣ x - y := Int.dvd_of_emod_eq_zero (Int.emod_eq_emod_iff_emod_sub_eq_zero.mp h)
theorem em_of_dvd {p x y : Int} (h : p ∣ x - y) : x % p = y % p := Int.emod_eq_emod_iff_emod_sub_eq_zero.mpr (Int.emod_eq_zero_of_dvd h)
theorem IsP.dvd_mulI {p : Nat} (h : IsP p) {a b : Int} (hd : (p : Int) ∣ a * b) : (p : Int) ∣ a ∨ (p : Int) ∣ b := by
  have := Int.natAbs_dvd_natAbs.mpr hd
  rw [Int.natAbs_mul, Int.natAbs_natCast] at this
  rcases h.dvd_mul this with q | q
  · exact .inl (Int.natAbs_dvd_natAbs.mp (by rw [Int.natAbs_natCast]; exact q))
  · exact .inr (Int.natAbs_dvd_natAbs.mp (by rw [Int.natAbs_natCast]; exact q))
theorem IsP.dvd_powI {p : Nat} (h : IsP p) {a : Int} : ∀ k : Nat, (p : Int) ∣ a ^ k → (p : Int) ∣ a
  | 0, hd => by
    rw [Int.pow_zero] at hd
    have := Int.le_of_dvd (by decide) hd
    have := h.1
    omega
  | k + 1, hd => by
    rw [Int.pow_succ] at hd
    rcases h.dvd_mulI hd with q | q
    · exact h.dvd_powI k q
    · exact q
theorem fermatI {p : Nat} (h : IsP p) {a : Int} (ha : ¬ (p : Int) ∣ a) : a ^ (p - 1) % p = 1 := by
  have h2 := h.1
  have e0 := Int.emod_nonneg a (show (p : Int) ≠ 0 by omega)
  obtain ⟨x, hx⟩ := Int.eq_ofNat_of_zero_le e0
  have hn : ¬ p ∣ x := fun d => by
    obtain ⟨k, rfl⟩ := d
    refine ha (Int.dvd_of_emod_eq_zero ?_)
    rw [← em_em a p, hx]
    exact Int.emod_eq_zero_of_dvd ⟨k, by show ((p * k : Nat) : Int) = _; rw [Int.natCast_mul]⟩
  have f := fermat h hn
  rw [em_pow (u := (x : Int)) (by rw [← hx, em_em])]
  rw [← Int.natCast_pow, ← Int.natCast_emod, f]; rfl
theorem sq_one {p : Nat} (h : IsP p) {x : Int} (hx : x * x % p = 1) : x % p = 1 ∨ x % p = p - 1 := by
  have h2 := h.1
  have o : (1 : Int) % p = 1 := Int.emod_eq_of_lt (by decide) (by omega)
  have d := em_dvd (p := p) (x := x * x) (y := 1) (by rw [hx, o])
  rw [show x * x - 1 = (x - 1) * (x - -1) by grind] at d
  rcases h.dvd_mulI d with q | q
  · left; rw [em_of_dvd q, o]
  · right
    rw [em_of_dvd q]
    have : (-1 : Int) = (p - 1 : Int) + p * (-1) := by omega
    rw [this, Int.add_mul_emod_self_left, Int.emod_eq_of_lt (by omega) (by omega)]
theorem m1_sq {p : Nat} (h : IsP p) {x : Int} (hx : x % p = p - 1) : x * x % p = 1 := by
  have h2 := h.1
  have o : (1 : Int) % p = 1 := Int.emod_eq_of_lt (by decide) (by omega)
  have hp : ((p : Int) - 1) % p = p - 1 := Int.emod_eq_of_lt (by omega) (by omega)
  rw [em_mul (hx.trans hp.symm) (hx.trans hp.symm), show ((p : Int) - 1) * (p - 1) = 1 + p * (p - 2) by grind, Int.add_mul_emod_self_left, o]
/-! ### a polynomial's roots -/
def evp : List Int → Int → Int
  | [], _ => 0
  | c :: cs, x => c + x * evp cs x
def dvp : List Int → Int → List Int
  | [], _ => []
  | [_], _ => []
  | _ :: d :: cs, r => evp (d :: cs) r :: dvp (d :: cs) r
theorem evp_dvp : ∀ (cs : List Int) (x r : Int), evp cs x - evp cs r = (x - r) * evp (dvp cs r) x
  | [], x, r => by simp [evp, dvp]
  | [c], x, r => by simp [evp, dvp]
  | c :: d :: cs, x, r => by
    have ih := evp_dvp (d :: cs) x r
    show c + x * evp (d :: cs) x - (c + r * evp (d :: cs) r) = (x - r) * (evp (d :: cs) r + x * evp (dvp (d :: cs) r) x)
    generalize evp (d :: cs) x = u at *
    generalize evp (d :: cs) r = v at *
    generalize evp (dvp (d :: cs) r) x = w at *
    have : u = v + (x - r) * w := by omega
    subst this
    grind
theorem dvp_len : ∀ (cs : List Int) (r : Int), (dvp cs r).length = cs.length - 1
  | [], r => rfl
  | [c], r => rfl
  | c :: d :: cs, r => by
    have ih := dvp_len (d :: cs) r
    simp only [dvp, List.length_cons] at *; omega
theorem dvp_top : ∀ (cs : List Int) (r : Int), 2 ≤ cs.length → cs.getLast? = some 1 → (dvp cs r).getLast? = some 1
  | [], r, h, _ => by simp at h
  | [c], r, h, _ => by simp at h
  | [c, d], r, _, h => by
    have : d = 1 := by simpa using h
    subst this
    simp [dvp, evp]
  | c :: d :: e :: cs, r, _, h => by
    have ih := dvp_top (d :: e :: cs) r (by simp) (by simpa using h)
    rw [dvp]
    have hn : dvp (d :: e :: cs) r ≠ [] := by simp [dvp]
    cases hq : dvp (d :: e :: cs) r with
    | nil => exact absurd hq hn
    | cons y ys => rw [hq] at ih; rw [List.getLast?_cons_cons]; exact ih
theorem roots_le {p : Nat} (h : IsP p) : ∀ (n : Nat) (cs : List Int), cs.length = n + 1 → cs.getLast? = some 1 → ∀ rs : List Int, rs.Pairwise (fun x y => ¬ (p : Int) ∣ y - x) → (∀ r ∈ rs, (p : Int) ∣ evp cs r) → rs.length ≤ n := by
  intro n
  induction n with
  | zero =>
    intro cs hl ht rs hp hr
    cases rs with
    | nil => exact Nat.le_refl 0
    | cons r rs =>
      match cs, hl with
      | [c], _ =>
        have : c = 1 := by simpa using ht
        subst this
        have d := hr r List.mem_cons_self
        have e : evp [1] r = 1 := by simp [evp]
        rw [e] at d
        have := Int.le_of_dvd (by decide) d
        have := h.1
        omega
  | succ n ih =>
    intro cs hl ht rs hp hr
    cases rs with
    | nil => exact Nat.zero_le _
    | cons r rs =>
      obtain ⟨h1, h2⟩ := List.pairwise_cons.mp hp
      have q := ih (dvp cs r) (by rw [dvp_len]; omega) (dvp_top cs r (by omega) ht) rs h2 fun s hs => by
        have d : (p : Int) ∣ evp cs s - evp cs r := Int.dvd_sub (hr s (List.mem_cons_of_mem _ hs)) (hr r List.mem_cons_self)
        rw [evp_dvp] at d
        exact (h.dvd_mulI d).resolve_left (h1 s hs)
      rw [List.length_cons]; omega
theorem evp_pow : ∀ (k : Nat) (x : Int), evp (List.replicate k 0 ++ [1]) x = x ^ k
  | 0, x => by simp [evp]
  | k + 1, x => by
    rw [List.replicate_succ, List.cons_append, evp, evp_pow k x, Int.pow_succ]; grind
/-- a number whose power is not 1 -/
theorem non_root {p : Nat} (h : IsP p) {k : Nat} (k0 : 0 < k) (hk : k < p - 1) : ∃ z : Nat, 1 ≤ z ∧ z < p ∧ (z : Int) ^ k % p ≠ 1 := by
  refine Classical.byContradiction fun c => ?_
  have all : ∀ z : Nat, 1 ≤ z → z < p → (z : Int) ^ k % p = 1 := fun z h1 h2 => Classical.byContradiction fun e => c ⟨z, h1, h2, e⟩
  have q := roots_le h k (-1 :: (List.replicate (k - 1) 0 ++ [1])) (by simp; omega) (by
    cases hq : (List.replicate (k - 1) 0 ++ [(1 : Int)]) with
    | nil => simp at hq
    | cons y ys => rw [List.getLast?_cons_cons, ← hq]; simp) ((List.range' 1 (p - 1)).map fun (z : Nat) => (z : Int)) (by
      refine List.pairwise_map.mpr (List.Pairwise.imp_of_mem (fun {x y} hx hy q d => ?_) (List.nodup_range' (s := 1) (n := p - 1)))
      have hx := List.mem_range'_1.mp hx
      have hy := List.mem_range'_1.mp hy
      have := Int.eq_zero_of_dvd_of_natAbs_lt_natAbs d (by omega)
      exact q (by omega)) (fun r hr => by
      obtain ⟨z, hz, rfl⟩ := List.mem_map.mp hr
      have hz := List.mem_range'_1.mp hz
      have e := all z hz.1 (by omega)
      have o : (1 : Int) % p = 1 := Int.emod_eq_of_lt (by decide) (by have := h.1; omega)
      have d := em_dvd (p := p) (x := (z : Int) ^ k) (y := 1) (by rw [e, o])
      show (p : Int) ∣ -1 + (z : Int) * evp (List.replicate (k - 1) 0 ++ [1]) z
      rw [evp_pow]
      have ek : (z : Int) * (z : Int) ^ (k - 1) = (z : Int) ^ k := by
        rw [Int.mul_comm, ← Int.pow_succ]; congr 1; omega
      rw [ek, show (-1 : Int) + (z : Int) ^ k = (z : Int) ^ k - 1 by omega]
      exact d)
  rw [List.length_map, List.length_range'] at q
  omega
/-- half the exponent: 1 or -1 -/
theorem half_pow {p : Nat} (h : IsP p) (ho : p % 2 = 1) {a : Int} (ha : ¬ (p : Int) ∣ a) : a ^ ((p - 1) / 2) % p = 1 ∨ a ^ ((p - 1) / 2) % p = p - 1 := by
  refine sq_one h ?_
  rw [← Int.pow_add, show (p - 1) / 2 + (p - 1) / 2 = p - 1 by omega]
  exact fermatI h ha
/-! ### the twos of a number -/
theorem low_and (o t : Nat) : (((2 * o + 1) * 2 ^ t) &&& ((2 * o + 1) * 2 ^ t - 1)) = 2 * o * 2 ^ t := by
  induction t with
  | zero =>
    rw [Nat.pow_zero, Nat.mul_one, Nat.mul_one, Nat.add_sub_cancel]
    have e1 := @Nat.and_div_two (2 * o + 1) (2 * o)
    have e2 := @Nat.and_mod_two_eq_one (2 * o + 1) (2 * o)
    rw [show (2 * o + 1) / 2 = o by omega, show 2 * o / 2 = o by omega, Nat.and_self] at e1
    omega
  | succ t ih =>
    have hp := Nat.two_pow_pos t
    have hm : 0 < (2 * o + 1) * 2 ^ t := Nat.mul_pos (by omega) hp
    have ep : (2 * o + 1) * 2 ^ (t + 1) = 2 * ((2 * o + 1) * 2 ^ t) := by rw [Nat.pow_succ]; ac_rfl
    have eq : 2 * o * 2 ^ (t + 1) = 2 * (2 * o * 2 ^ t) := by rw [Nat.pow_succ]; ac_rfl
    rw [ep, eq]
    generalize (2 * o + 1) * 2 ^ t = m at *
    have e1 := @Nat.and_div_two (2 * m) (2 * m - 1)
    have e2 := @Nat.and_mod_two_eq_one (2 * m) (2 * m - 1)
    rw [show 2 * m / 2 = m by omega, show (2 * m - 1) / 2 = m - 1 by omega, ih] at e1
    omega
theorem odd_part : ∀ n : Nat, 0 < n → ∃ o t, n = (2 * o + 1) * 2 ^ t := by
  intro n
  induction n using Nat.strongRecOn with
  | ind n ih =>
    intro h
    by_cases e : n % 2 = 1
    · exact ⟨n / 2, 0, by rw [Nat.pow_zero]; omega⟩
    · obtain ⟨o, t, q⟩ := ih (n / 2) (by omega) (by omega)
      exact ⟨o, t + 1, by rw [Nat.pow_succ, ← Nat.mul_assoc, ← q]; omega⟩
end Mi
set_option maxHeartbeats 1000000
namespace Mi
/-! ### residues as a ring -/
def zr (p : Nat) (x y : Int) : Prop := x % p = y % p
def Zp (p : Nat) : Type := Quot (zr p)
def zm (p : Nat) (x : Int) : Zp p := Quot.mk _ x
theorem zr_iff {p : Nat} {x y : Int} : zr p x y ↔ (p : Int) ∣ x - y := ⟨fun h => em_dvd h, fun h => em_of_dvd h⟩
section
variable {p : Nat}
def zadd : Zp p → Zp p → Zp p := Quot.lift (fun x => Quot.lift (fun y => zm p (x + y)) fun a b h => Quot.sound (by
  rw [zr_iff] at h ⊢; rw [show x + a - (x + b) = a - b by omega]; exact h)) fun a b h => by
  funext y
  induction y using Quot.ind
  refine Quot.sound ?_
  rw [zr_iff] at h ⊢
  rename_i y
  rw [show a + y - (b + y) = a - b by omega]; exact h
def zmul : Zp p → Zp p → Zp p := Quot.lift (fun x => Quot.lift (fun y => zm p (x * y)) fun a b h => Quot.sound (em_mul rfl h)) fun a b h => by
  funext y
  induction y using Quot.ind
  exact Quot.sound (em_mul h rfl)
def zneg : Zp p → Zp p := Quot.lift (fun x => zm p (-x)) fun a b h => Quot.sound (by
  rw [zr_iff] at h ⊢
  rw [show -a - -b = -(a - b) by omega]; exact Int.dvd_neg.mpr h)
instance : Add (Zp p) := ⟨zadd⟩
instance : Mul (Zp p) := ⟨zmul⟩
instance : Neg (Zp p) := ⟨zneg⟩
instance : Sub (Zp p) := ⟨fun x y => x + -y⟩
instance : NatCast (Zp p) := ⟨fun n => zm p (n : Int)⟩
instance : IntCast (Zp p) := ⟨fun n => zm p n⟩
instance (n : Nat) : OfNat (Zp p) n := ⟨zm p (n : Int)⟩
def zpow (x : Zp p) : Nat → Zp p
  | 0 => 1
  | n + 1 => zpow x n * x
instance : HPow (Zp p) Nat (Zp p) := ⟨zpow⟩
instance : SMul Nat (Zp p) := ⟨fun n x => (n : Zp p) * x⟩
instance : SMul Int (Zp p) := ⟨fun n x => (n : Zp p) * x⟩
theorem zm_add (x y : Int) : zm p (x + y) = zm p x + zm p y := rfl
theorem zm_mul (x y : Int) : zm p (x * y) = zm p x * zm p y := rfl
theorem zm_neg (x : Int) : zm p (-x) = -zm p x := rfl
theorem zm_sub (x y : Int) : zm p (x - y) = zm p x - zm p y := by
  rw [Int.sub_eq_add_neg]; rfl
theorem zm_eq {x y : Int} : zm p x = zm p y ↔ x % p = y % p := by
  refine ⟨fun h => ?_, fun h => Quot.sound h⟩
  have : ∀ z : Zp p, zm p x = z → Quot.lift (fun y => x % p = y % p) (fun a b h => by simp only [show a % (p : Int) = b % p from h]) z := by
    intro z e; subst e; rfl
  exact this _ h
theorem zm_num (n : Nat) : zm p (OfNat.ofNat n : Int) = (OfNat.ofNat n : Zp p) := rfl
theorem zm_nat (n : Nat) : zm p (n : Int) = (OfNat.ofNat n : Zp p) := rfl
theorem zm_mod (x : Int) : zm p (x % p) = zm p x := zm_eq.mpr (em_em _ _)
instance : Lean.Grind.CommRing (Zp p) where
  add_zero := fun a => Quot.inductionOn a (fun x => congrArg (zm p) (Int.add_zero x))
  add_comm := fun a b => Quot.inductionOn a (fun x => Quot.inductionOn b (fun y => congrArg (zm p) (Int.add_comm x y)))
  add_assoc := fun a b c => Quot.inductionOn a (fun x => Quot.inductionOn b (fun y => Quot.inductionOn c (fun z => congrArg (zm p) (Int.add_assoc x y z))))
  mul_assoc := fun a b c => Quot.inductionOn a (fun x => Quot.inductionOn b (fun y => Quot.inductionOn c (fun z => congrArg (zm p) (Int.mul_assoc x y z))))
  mul_one := fun a => Quot.inductionOn a (fun x => congrArg (zm p) (Int.mul_one x))
  one_mul := fun a => Quot.inductionOn a (fun x => congrArg (zm p) (Int.one_mul x))
  left_distrib := fun a b c => Quot.inductionOn a (fun x => Quot.inductionOn b (fun y => Quot.inductionOn c (fun z => congrArg (zm p) (Int.mul_add x y z))))
  right_distrib := fun a b c => Quot.inductionOn a (fun x => Quot.inductionOn b (fun y => Quot.inductionOn c (fun z => congrArg (zm p) (Int.add_mul x y z))))
  zero_mul := fun a => Quot.inductionOn a (fun x => congrArg (zm p) (Int.zero_mul x))
  mul_zero := fun a => Quot.inductionOn a (fun x => congrArg (zm p) (Int.mul_zero x))
  pow_zero := fun a => rfl
  pow_succ := fun a n => rfl
  ofNat_succ := fun n => rfl
  ofNat_eq_natCast := fun n => rfl
  nsmul_eq_natCast_mul := fun n a => rfl
  neg_add_cancel := fun a => Quot.inductionOn a (fun x => congrArg (zm p) (Int.add_left_neg x))
  sub_eq_add_neg := fun a b => rfl
  neg_zsmul := fun i a => Quot.inductionOn a (fun x => congrArg (zm p) (Int.neg_mul i x))
  zsmul_natCast_eq_nsmul := fun n a => rfl
  intCast_ofNat := fun n => rfl
  intCast_neg := fun i => rfl
  mul_comm := fun a b => Quot.inductionOn a (fun x => Quot.inductionOn b (fun y => congrArg (zm p) (Int.mul_comm x y)))
theorem zm_zero {x : Int} : zm p x = 0 ↔ x % p = 0 := by
  have : zm p x = zm p 0 ↔ _ := zm_eq
  rw [Int.zero_emod] at this
  exact this
theorem zm_pow (x : Int) : ∀ n : Nat, zm p (x ^ n) = zm p x ^ n
  | 0 => by rw [Int.pow_zero]; rfl
  | n + 1 => by
    rw [Int.pow_succ, zm_mul, zm_pow x n]; rfl
theorem zm_dvd {x : Int} : zm p x = 0 ↔ (p : Int) ∣ x := zm_zero.trans ⟨Int.dvd_of_emod_eq_zero, Int.emod_eq_zero_of_dvd⟩
theorem z_dom (h : IsP p) {x y : Zp p} (e : x * y = 0) : x = 0 ∨ y = 0 := by
  revert e
  refine Quot.inductionOn x (fun x => ?_)
  refine Quot.inductionOn y (fun y => ?_)
  intro e
  rcases h.dvd_mulI (zm_dvd.mp e) with q | q
  · exact .inl (zm_dvd.mpr q)
  · exact .inr (zm_dvd.mpr q)
theorem z_cancel (h : IsP p) {x y : Zp p} (hx : x ≠ 0) (e : x * y = 0) : y = 0 := (z_dom h e).resolve_left hx
theorem z_mul_ne (h : IsP p) {x y : Zp p} (hx : x ≠ 0) (hy : y ≠ 0) : x * y ≠ 0 := fun e => hy (z_cancel h hx e)
theorem z_inv0 (h : IsP p) (x : Int) (hx : zm p x ≠ 0) : zm p x ^ (p - 2) * zm p x = 1 := by
  have h2 := h.1
  have f := fermatI h (a := x) fun d => hx (zm_dvd.mpr d)
  rw [← zm_pow, ← zm_mul, ← Int.pow_succ, show (p - 2).succ = p - 1 by omega]
  exact (show zm p (x ^ (p - 1)) = zm p 1 from zm_eq.mpr (by rw [f, Int.emod_eq_of_lt (by decide) (by omega)]))
theorem z_inv (h : IsP p) {x : Zp p} : x ≠ 0 → x ^ (p - 2) * x = 1 := Quot.inductionOn x fun x hx => z_inv0 h x hx
theorem z_ne_num (n : Nat) (h0 : 0 < n) (h1 : n < p) : (OfNat.ofNat n : Zp p) ≠ 0 := by
  intro e
  have := zm_zero.mp (show zm p (n : Int) = 0 from e)
  rw [Int.emod_eq_of_lt (by omega) (by omega)] at this
  omega
/-- residues are equal if their classes are -/
theorem res_eq {x y : Int} (hx0 : 0 ≤ x) (hx1 : x < p) (hy0 : 0 ≤ y) (hy1 : y < p) (h : zm p x = zm p y) : x = y := by
  have := zm_eq.mp h
  rwa [Int.emod_eq_of_lt hx0 hx1, Int.emod_eq_of_lt hy0 hy1] at this
end
theorem z_test {p : Nat} (x y : Zp p) (h : x * x = y) : (x + 1) ^ 2 - 2 * x - 1 = y := by grind
end Mi
namespace Mi
theorem z_clos {p : Nat} (x1 y1 x2 y2 a b l i : Zp p) (h1 : y1*y1 = x1*x1*x1 + a*x1 + b) (h2 : y2*y2 = x2*x2*x2 + a*x2 + b) (hi : i*(x2-x1) = 1) (hl : l*(x2-x1) = (y2-y1))  : (l*(x1-(l*l - x1 - x2)) - y1)*(l*(x1-(l*l - x1 - x2)) - y1) = (l*l - x1 - x2)*(l*l - x1 - x2)*(l*l - x1 - x2) + a*(l*l - x1 - x2) + b := by
  have q : x1*x1 + x1*x2 + x2*x2 + a = l*(y1+y2) := by
    have : (x2-x1)*(x1*x1 + x1*x2 + x2*x2 + a - l*(y1+y2)) = 0 := by grind
    grind
  have e : y2 = y1 + l*(x2-x1) := by grind
  subst e
  grind
end Mi
set_option maxHeartbeats 1000000
namespace Mi
open PySem PySem.Spec L2
/-! ### sizes, found by themselves -/
class Bd (x : Int) (n : outParam Nat) : Prop where
  lt : x.natAbs < 2 ^ n
class Pb (p : Nat) : Prop where
  pos : 0 < p
  lt : p < 2 ^ 256
theorem Bd.up {x : Int} {m n : Nat} (h : x.natAbs < 2 ^ m) (e : m ≤ n) : x.natAbs < 2 ^ n := Nat.lt_of_lt_of_le h (Nat.pow_le_pow_right (by decide) e)
instance bd_mul {x y : Int} {a b : Nat} [h1 : Bd x a] [h2 : Bd y b] : Bd (x * y) (a + b) := ⟨by rw [Int.natAbs_mul]; exact pow_add_lt h1.lt h2.lt⟩
theorem two_sum {u v a b : Nat} (h1 : u < 2 ^ a) (h2 : v < 2 ^ b) : u + v < 2 ^ (max a b + 1) := by
  have := Nat.lt_of_lt_of_le h1 (Nat.pow_le_pow_right (show 0 < 2 by decide) (Nat.le_max_left a b))
  have := Nat.lt_of_lt_of_le h2 (Nat.pow_le_pow_right (show 0 < 2 by decide) (Nat.le_max_right a b))
  rw [Nat.pow_succ]; omega
instance bd_add {x y : Int} {a b : Nat} [h1 : Bd x a] [h2 : Bd y b] : Bd (x + y) (max a b + 1) := ⟨Nat.lt_of_le_of_lt (Int.natAbs_add_le x y) (two_sum h1.lt h2.lt)⟩
instance bd_sub {x y : Int} {a b : Nat} [h1 : Bd x a] [h2 : Bd y b] : Bd (x - y) (max a b + 1) := ⟨Nat.lt_of_le_of_lt (Int.natAbs_sub_le x y) (two_sum h1.lt h2.lt)⟩
instance bd_neg {x : Int} {a : Nat} [h1 : Bd x a] : Bd (-x) a := ⟨by rw [Int.natAbs_neg]; exact h1.lt⟩
instance bd_pow {x : Int} {a k : Nat} [h1 : Bd x a] : Bd (x ^ k) (a * k + 1) := ⟨by
  rw [Int.natAbs_pow]
  have : x.natAbs ^ k ≤ (2 ^ a) ^ k := Nat.pow_le_pow_left (Nat.le_of_lt h1.lt) k
  rw [← Nat.pow_mul] at this
  have : 2 ^ (a * k) < 2 ^ (a * k + 1) := Nat.pow_lt_pow_right (by decide) (by omega)
  omega⟩
instance : Bd (0 : Int) 8 := ⟨by decide⟩
instance : Bd (1 : Int) 8 := ⟨by decide⟩
instance : Bd (2 : Int) 8 := ⟨by decide⟩
instance : Bd (3 : Int) 8 := ⟨by decide⟩
instance : Bd (4 : Int) 8 := ⟨by decide⟩
instance : Bd (5 : Int) 8 := ⟨by decide⟩
instance : Bd (6 : Int) 8 := ⟨by decide⟩
instance : Bd (7 : Int) 8 := ⟨by decide⟩
instance : Bd (8 : Int) 8 := ⟨by decide⟩
instance : Bd (9 : Int) 8 := ⟨by decide⟩
instance : Bd (12 : Int) 8 := ⟨by decide⟩
instance : Bd (13 : Int) 8 := ⟨by decide⟩
instance : Bd (16 : Int) 8 := ⟨by decide⟩
instance : Bd (27 : Int) 8 := ⟨by decide⟩
instance : Bd (2147483648 : Int) 70 := ⟨by decide +kernel⟩
instance : Bd (4294967296 : Int) 70 := ⟨by decide +kernel⟩
instance : Bd (2305843009213693952 : Int) 70 := ⟨by decide +kernel⟩
instance : Bd (9223372036854775808 : Int) 70 := ⟨by decide +kernel⟩
instance : Bd (18446744073709551616 : Int) 70 := ⟨by decide +kernel⟩
instance : Bd (6277101735386680763835789423207666416102355444464034512896 : Int) 200 := ⟨by decide +kernel⟩
instance bd_p {p : Nat} [h : Pb p] : Bd (p : Int) 256 := ⟨by rw [Int.natAbs_natCast]; exact h.lt⟩
instance bd_mod {p : Nat} {x : Int} [h : Pb p] : Bd (x % (p : Int)) 256 := ⟨by
  have := h.pos; have := h.lt
  have := Int.emod_nonneg x (show (p : Int) ≠ 0 by omega)
  have := Int.emod_lt_of_pos x (show (0 : Int) < (p : Int) by omega)
  omega⟩
theorem need_bd {α : Type} {x y : Int} {a b : Nat} {m : Res α} [h1 : Bd x a] [h2 : Bd y b] (h : (decide (a + b ≤ 134217728)) = true) : Res.need (CMulX x y) m = m := Res.need_pos (cmulx h1.lt h2.lt (of_decide_eq_true h))
theorem need_pw2 {α : Type} {x : Int} {a : Nat} {m : Res α} [h1 : Bd x a] (h : (decide (a * 2 ≤ 134217728)) = true) : Res.need (CPowX x 2) m = m := Res.need_pos ⟨by decide, by
  have := le_ibits h1.lt
  have h := of_decide_eq_true h
  show ((Builtin.Int.intBits x : Nat) : Int) * 2 ≤ 134217728
  omega⟩
theorem need_pw3 {α : Type} {x : Int} {a : Nat} {m : Res α} [h1 : Bd x a] (h : (decide (a * 3 ≤ 134217728)) = true) : Res.need (CPowX x 3) m = m := Res.need_pos ⟨by decide, by
  have := le_ibits h1.lt
  have h := of_decide_eq_true h
  show ((Builtin.Int.intBits x : Nat) : Int) * 3 ≤ 134217728
  omega⟩
theorem need_pw4 {α : Type} {x : Int} {a : Nat} {m : Res α} [h1 : Bd x a] (h : (decide (a * 4 ≤ 134217728)) = true) : Res.need (CPowX x 4) m = m := Res.need_pos ⟨by decide, by
  have := le_ibits h1.lt
  have h := of_decide_eq_true h
  show ((Builtin.Int.intBits x : Nat) : Int) * 4 ≤ 134217728
  omega⟩
theorem need_pw6 {α : Type} {x : Int} {a : Nat} {m : Res α} [h1 : Bd x a] (h : (decide (a * 6 ≤ 134217728)) = true) : Res.need (CPowX x 6) m = m := Res.need_pos ⟨by decide, by
  have := le_ibits h1.lt
  have h := of_decide_eq_true h
  show ((Builtin.Int.intBits x : Nat) : Int) * 6 ≤ 134217728
  omega⟩
theorem need_p {α : Type} {p : Nat} {m : Res α} [h : Pb p] : Res.need (0 < (p : Int)) m = m := Res.need_pos (by have := h.pos; omega)
theorem need_true {α : Type} {m : Res α} : Res.need True m = m := Res.need_pos trivial
theorem tn2 : (2 : Int).toNat = 2 := rfl
theorem tn3 : (3 : Int).toNat = 3 := rfl
theorem tn4 : (4 : Int).toNat = 4 := rfl
theorem tn6 : (6 : Int).toNat = 6 := rfl
theorem bd_test {α : Type} {p : Nat} [Pb p] (x y : Int) [Bd x 256] [Bd y 256] (m : Res α) : Res.need (CMulX (x * y - 27 * x ^ 3) (y + (x * x * x) % (p : Int))) (Res.need (0 < (p : Int)) (Res.need (CPowX (x * y) 3) m)) = m := by
  simp (decide := true) only [need_bd, need_p, need_pw3]
end Mi
set_option maxHeartbeats 1000000
namespace Mi
/-! ### residues of a prime as a field -/
class Prm (p : Nat) : Prop where
  pr : IsP p
section
variable {p : Nat}
def zv : Zp p → Int := Quot.lift (fun x => x % (p : Int)) fun a b h => h
theorem zv_zm (x : Int) : zv (zm p x) = x % p := rfl
theorem zm_zv (x : Zp p) : zm p (zv x) = x := Quot.inductionOn x fun x => zm_mod x
theorem zv_ge [P : Prm p] (x : Zp p) : 0 ≤ zv x := Quot.inductionOn x fun x => Int.emod_nonneg _ (by have := P.pr.1; omega)
theorem zv_lt [P : Prm p] (x : Zp p) : zv x < p := Quot.inductionOn x fun x => Int.emod_lt_of_pos _ (by have := P.pr.1; omega)
theorem zv_inj {x y : Zp p} (h : zv x = zv y) : x = y := by rw [← zm_zv x, ← zm_zv y, h]
theorem zv_of {x : Int} (h0 : 0 ≤ x) (h1 : x < p) : zv (zm p x) = x := by rw [zv_zm, Int.emod_eq_of_lt h0 h1]
theorem zpow_zero' (n : Nat) (h : 0 < n) : (0 : Zp p) ^ n = 0 := by
  cases n with
  | zero => omega
  | succ n => show (0 : Zp p) ^ n * 0 = 0; grind
open Classical in
noncomputable def zinv (x : Zp p) : Zp p := if x = 0 then 0 else x ^ (p - 2)
noncomputable instance : Inv (Zp p) := ⟨zinv⟩
noncomputable instance : Div (Zp p) := ⟨fun x y => x * y⁻¹⟩
noncomputable def zzpow (x : Zp p) : Int → Zp p
  | .ofNat n => x ^ n
  | .negSucc n => (x ^ (n + 1))⁻¹
noncomputable instance : HPow (Zp p) Int (Zp p) := ⟨zzpow⟩
theorem z_inv_zero : (0 : Zp p)⁻¹ = 0 := by show zinv 0 = 0; unfold zinv; rw [if_pos rfl]
theorem z_one_inv [P : Prm p] : (1 : Zp p)⁻¹ = 1 := by
  show zinv 1 = 1
  unfold zinv
  split
  · rename_i h; exact h.symm
  · have : ∀ n : Nat, (1 : Zp p) ^ n = 1 := by
      intro n
      induction n with
      | zero => rfl
      | succ n ih => show (1 : Zp p) ^ n * 1 = 1; rw [ih]; grind
    exact this _
theorem z_mul_inv [P : Prm p] {x : Zp p} (h : x ≠ 0) : x * x⁻¹ = 1 := by
  show x * zinv x = 1
  unfold zinv
  rw [if_neg h]
  have := z_inv P.pr h
  grind
theorem z_inv_inv [P : Prm p] (x : Zp p) : x⁻¹⁻¹ = x := by
  by_cases h : x = 0
  · subst h; rw [z_inv_zero, z_inv_zero]
  · have a := z_mul_inv h
    have h' : x⁻¹ ≠ 0 := by
      intro e
      rw [e] at a
      have : (1 : Zp p) = 0 := by grind
      exact z_ne_num 1 (by decide) (by have := P.pr.1; omega) this
    have b := z_mul_inv h'
    have : x * (x⁻¹ * x⁻¹⁻¹) = x := by rw [b]; grind
    have t : x * (x⁻¹ * x⁻¹⁻¹) = (x * x⁻¹) * x⁻¹⁻¹ := by grind
    rw [t, a] at this
    grind
noncomputable instance [P : Prm p] : Lean.Grind.Field (Zp p) where
  toCommRing := inferInstance
  div_eq_mul_inv := fun a b => rfl
  zero_ne_one := fun h => z_ne_num (p := p) 1 (by decide) (by have := P.pr.1; omega) h.symm
  inv_zero := z_inv_zero
  mul_inv_cancel := fun h => z_mul_inv h
  zpow_zero := fun a => rfl
  zpow_succ := fun a n => rfl
  zpow_neg := fun a n => by
    cases n with
    | ofNat n =>
      cases n with
      | zero => exact z_one_inv.symm
      | succ n => rfl
    | negSucc n => exact (z_inv_inv _).symm
end
/-! ### multiples in a commutative group -/
section
open Lean.Grind
variable {M : Type} [AddCommGroup M]
def nsm (n : Nat) (a : M) : M := match n with
  | 0 => 0
  | n + 1 => nsm n a + a
def zsm (n : Int) (a : M) : M := match n with
  | .ofNat n => nsm n a
  | .negSucc n => -(nsm (n + 1) a)
theorem g_add_comm (a b : M) : a + b = b + a := AddCommMonoid.add_comm a b
theorem g_add_assoc (a b c : M) : a + b + c = a + (b + c) := AddCommMonoid.add_assoc a b c
theorem g_add_zero (a : M) : a + 0 = a := AddCommMonoid.add_zero a
theorem g_zero_add (a : M) : 0 + a = a := by rw [g_add_comm]; exact g_add_zero a
theorem g_neg_add (a : M) : -a + a = 0 := AddCommGroup.neg_add_cancel a
theorem g_add_neg (a : M) : a + -a = 0 := by rw [g_add_comm]; exact g_neg_add a
theorem g_cancel_r {a b c : M} (h : a + c = b + c) : a = b := by
  have := congrArg (fun z => z + -c) h
  simp only [g_add_assoc, g_add_neg, g_add_zero] at this
  exact this
theorem g_cancel_l {a b c : M} (h : c + a = c + b) : a = b := g_cancel_r (c := c) (by rw [g_add_comm a, g_add_comm b]; exact h)
theorem g_neg_eq {a b : M} (h : a + b = 0) : b = -a := g_cancel_l (c := a) (by rw [h, g_add_neg])
theorem g_neg_neg (a : M) : - -a = a := (g_neg_eq (g_neg_add a)).symm
theorem g_neg_addd (a b : M) : -(a + b) = -a + -b := (g_neg_eq (by
  rw [g_add_assoc, g_add_comm (-a), ← g_add_assoc b, g_add_neg, g_zero_add, g_add_neg])).symm
theorem g_neg_zero : -(0 : M) = 0 := (g_neg_eq (g_add_zero 0)).symm
theorem g_sub (a b : M) : a - b = a + -b := AddCommGroup.sub_eq_add_neg a b
theorem nsm_zero (a : M) : nsm 0 a = 0 := rfl
theorem nsm_succ (n : Nat) (a : M) : nsm (n + 1) a = nsm n a + a := rfl
theorem nsm_one (a : M) : nsm 1 a = a := g_zero_add a
theorem nsm_add (m n : Nat) (a : M) : nsm (m + n) a = nsm m a + nsm n a := by
  induction n with
  | zero => rw [Nat.add_zero, nsm_zero, g_add_zero]
  | succ n ih => rw [← Nat.add_assoc, nsm_succ, nsm_succ, ih, g_add_assoc]
theorem nsm_zero' (n : Nat) : nsm n (0 : M) = 0 := by
  induction n with
  | zero => rfl
  | succ n ih => rw [nsm_succ, ih, g_add_zero]
theorem nsm_addd (n : Nat) (a b : M) : nsm n (a + b) = nsm n a + nsm n b := by
  induction n with
  | zero => rw [nsm_zero, nsm_zero, nsm_zero, g_add_zero]
  | succ n ih => rw [nsm_succ, nsm_succ, nsm_succ, ih, g_add_assoc, g_add_assoc, ← g_add_assoc (nsm n b), ← g_add_assoc a, g_add_comm a (nsm n b)]
theorem nsm_mul (m n : Nat) (a : M) : nsm (m * n) a = nsm m (nsm n a) := by
  induction m with
  | zero => rw [Nat.zero_mul]; rfl
  | succ m ih => rw [Nat.succ_mul, nsm_add, ih, nsm_succ]
theorem nsm_neg (n : Nat) (a : M) : nsm n (-a) = -(nsm n a) := g_neg_eq (by rw [← nsm_addd, g_add_neg, nsm_zero'])
theorem zsm_nat (n : Nat) (a : M) : zsm (n : Int) a = nsm n a := rfl
theorem zsm_neg_nat (n : Nat) (a : M) : zsm (-(n : Int)) a = -(nsm n a) := by
  cases n with
  | zero => show nsm 0 a = -(nsm 0 a); rw [nsm_zero, g_neg_zero]
  | succ n => rfl
theorem zsm_neg (n : Int) (a : M) : zsm (-n) a = -(zsm n a) := by
  rcases Int.eq_nat_or_neg n with ⟨k, rfl | rfl⟩
  · rw [zsm_neg_nat, zsm_nat]
  · rw [Int.neg_neg, zsm_neg_nat, zsm_nat, g_neg_neg]
theorem zsm_negp (n : Int) (a : M) : zsm n (-a) = -(zsm n a) := by
  rcases Int.eq_nat_or_neg n with ⟨k, rfl | rfl⟩
  · rw [zsm_nat, zsm_nat, nsm_neg]
  · rw [zsm_neg_nat, zsm_neg_nat, nsm_neg]
theorem zsm_sub_nat (m n : Nat) (a : M) : zsm ((m : Int) - n) a = nsm m a + -(nsm n a) := by
  rcases Nat.le_total n m with h | h
  · obtain ⟨k, rfl⟩ := Nat.exists_eq_add_of_le h
    rw [show ((n + k : Nat) : Int) - n = (k : Int) by omega, zsm_nat, Nat.add_comm, nsm_add, g_add_assoc, g_add_neg, g_add_zero]
  · obtain ⟨k, rfl⟩ := Nat.exists_eq_add_of_le h
    rw [show (m : Int) - ((m + k : Nat) : Int) = -(k : Int) by omega, zsm_neg_nat, nsm_add, g_neg_addd, ← g_add_assoc, g_add_neg, g_zero_add]
theorem zsm_add (m n : Int) (a : M) : zsm (m + n) a = zsm m a + zsm n a := by
  rcases Int.eq_nat_or_neg m with ⟨k, rfl | rfl⟩ <;> rcases Int.eq_nat_or_neg n with ⟨l, rfl | rfl⟩
  · rw [← Int.natCast_add, zsm_nat, zsm_nat, zsm_nat, nsm_add]
  · rw [← Int.sub_eq_add_neg, zsm_sub_nat, zsm_nat, zsm_neg_nat]
  · rw [Int.add_comm, ← Int.sub_eq_add_neg, zsm_sub_nat, zsm_nat, zsm_neg_nat, g_add_comm]
  · rw [show -(k : Int) + -(l : Int) = -((k + l : Nat) : Int) by omega, zsm_neg_nat, zsm_neg_nat, zsm_neg_nat, nsm_add, g_neg_addd]
theorem zsm_addd (n : Int) (a b : M) : zsm n (a + b) = zsm n a + zsm n b := by
  rcases Int.eq_nat_or_neg n with ⟨k, rfl | rfl⟩
  · rw [zsm_nat, zsm_nat, zsm_nat, nsm_addd]
  · rw [zsm_neg_nat, zsm_neg_nat, zsm_neg_nat, nsm_addd, g_neg_addd]
theorem zsm_mul (m n : Int) (a : M) : zsm (m * n) a = zsm m (zsm n a) := by
  rcases Int.eq_nat_or_neg m with ⟨k, rfl | rfl⟩ <;> rcases Int.eq_nat_or_neg n with ⟨l, rfl | rfl⟩
  · rw [← Int.natCast_mul, zsm_nat, zsm_nat, zsm_nat, nsm_mul]
  · rw [Int.mul_neg, ← Int.natCast_mul, zsm_neg_nat, zsm_nat, zsm_neg_nat, nsm_neg, nsm_mul]
  · rw [Int.neg_mul, ← Int.natCast_mul, zsm_neg_nat, zsm_neg_nat, zsm_nat, nsm_mul]
  · rw [Int.neg_mul_neg, ← Int.natCast_mul, zsm_nat, zsm_neg_nat, zsm_neg_nat, nsm_neg, g_neg_neg, nsm_mul]
theorem zsm_zero (a : M) : zsm 0 a = 0 := rfl
theorem zsm_one (a : M) : zsm 1 a = a := nsm_one a
theorem zsm_zero' (n : Int) : zsm n (0 : M) = 0 := by
  rcases Int.eq_nat_or_neg n with ⟨k, rfl | rfl⟩
  · rw [zsm_nat, nsm_zero']
  · rw [zsm_neg_nat, nsm_zero', g_neg_zero]
theorem zsm_two (a : M) : zsm 2 a = a + a := by
  show nsm 2 a = _
  rw [nsm_succ, nsm_one]
end
end Mi
set_option maxHeartbeats 4000000
namespace Mi
open Lean.Grind
section
variable {F : Type} [Field F]
/-! ### the sum of points of a short Weierstrass curve, over any field -/
abbrev Pt (F : Type) := Option (F × F)
def OnC {R : Type} [CommRing R] (a b : R) : Pt R → Prop
  | none => True
  | some (x, y) => y * y = x * x * x + a * x + b
def pneg {R : Type} [CommRing R] : Pt R → Pt R
  | none => none
  | some (x, y) => some (x, -y)
open Classical in
noncomputable def padd (a : F) : Pt F → Pt F → Pt F
  | none, q => q
  | some p, none => some p
  | some (x1, y1), some (x2, y2) =>
    if x1 = x2 ∧ y1 + y2 = 0 then none
    else
      let l := if x1 = x2 then (3 * x1 * x1 + a) * (2 * y1)⁻¹ else (y2 - y1) * (x2 - x1)⁻¹
      some (l * l - x1 - x2, l * (x1 - (l * l - x1 - x2)) - y1)
open Classical in
theorem padd_eq (a x1 y1 x2 y2 : F) : padd a (some (x1, y1)) (some (x2, y2)) = if x1 = x2 ∧ y1 + y2 = 0 then none
    else
      let l := if x1 = x2 then (3 * x1 * x1 + a) * (2 * y1)⁻¹ else (y2 - y1) * (x2 - x1)⁻¹
      some (l * l - x1 - x2, l * (x1 - (l * l - x1 - x2)) - y1) := rfl
/-- l is the slope of the line through both -/
def Slp (a x1 y1 x2 y2 l : F) : Prop := y2 - y1 = l * (x2 - x1) ∧ l * (y1 + y2) = x1 * x1 + x1 * x2 + x2 * x2 + a
theorem f_dom {x y : F} (h : x * y = 0) : x = 0 ∨ y = 0 := by
  by_cases hx : x = 0
  · exact .inl hx
  · refine .inr ?_
    have := Field.mul_inv_cancel hx
    grind
theorem f_cancel {x y : F} (hx : x ≠ 0) (h : x * y = 0) : y = 0 := (f_dom h).resolve_left hx
theorem slp_ex {a b x1 y1 x2 y2 : F} (h2 : (2 : F) ≠ 0) (o1 : OnC a b (some (x1, y1))) (o2 : OnC a b (some (x2, y2))) (hn : ¬ (x1 = x2 ∧ y1 + y2 = 0)) :
    ∃ l, Slp a x1 y1 x2 y2 l ∧ padd a (some (x1, y1)) (some (x2, y2)) = some (l * l - x1 - x2, l * (x1 - (l * l - x1 - x2)) - y1) := by
  have o1 : y1 * y1 = x1 * x1 * x1 + a * x1 + b := o1
  have o2 : y2 * y2 = x2 * x2 * x2 + a * x2 + b := o2
  by_cases hx : x1 = x2
  · subst hx
    have hs : y1 + y2 ≠ 0 := fun e => hn ⟨rfl, e⟩
    have hy : y1 = y2 := by
      have : (y1 + y2) * (y1 - y2) = 0 := by grind
      have := f_cancel hs this
      grind
    subst hy
    have h0 : 2 * y1 ≠ 0 := by grind
    have iv := Field.mul_inv_cancel h0
    refine ⟨(3 * x1 * x1 + a) * (2 * y1)⁻¹, ⟨by grind, by grind⟩, ?_⟩
    rw [padd_eq, if_neg hn, if_pos rfl]
  · have h0 : x2 - x1 ≠ 0 := by grind
    have iv := Field.mul_inv_cancel h0
    refine ⟨(y2 - y1) * (x2 - x1)⁻¹, ⟨by grind, ?_⟩, ?_⟩
    · have : (x2 - x1) * ((y2 - y1) * (x2 - x1)⁻¹ * (y1 + y2) - (x1 * x1 + x1 * x2 + x2 * x2 + a)) = 0 := by grind
      have := f_cancel h0 this
      grind
    · rw [padd_eq, if_neg hn, if_neg hx]
theorem slp_uniq {a b x1 y1 x2 y2 l m : F} (o1 : OnC a b (some (x1, y1))) (o2 : OnC a b (some (x2, y2))) (hn : ¬ (x1 = x2 ∧ y1 + y2 = 0)) (h1 : Slp a x1 y1 x2 y2 l) (h2 : Slp a x1 y1 x2 y2 m) : l = m := by
  obtain ⟨a1, a2⟩ := h1
  obtain ⟨b1, b2⟩ := h2
  by_cases hx : x1 = x2
  · have hs : y1 + y2 ≠ 0 := fun e => hn ⟨hx, e⟩
    have : (y1 + y2) * (l - m) = 0 := by grind
    have := f_cancel hs this
    grind
  · have h0 : x2 - x1 ≠ 0 := by grind
    have : (x2 - x1) * (l - m) = 0 := by grind
    have := f_cancel h0 this
    grind
theorem padd_slp {a b x1 y1 x2 y2 l : F} (h2 : (2 : F) ≠ 0) (o1 : OnC a b (some (x1, y1))) (o2 : OnC a b (some (x2, y2))) (hn : ¬ (x1 = x2 ∧ y1 + y2 = 0)) (h : Slp a x1 y1 x2 y2 l) :
    padd a (some (x1, y1)) (some (x2, y2)) = some (l * l - x1 - x2, l * (x1 - (l * l - x1 - x2)) - y1) := by
  obtain ⟨m, hm, e⟩ := slp_ex h2 o1 o2 hn
  have := slp_uniq o1 o2 hn h hm
  subst this
  exact e
theorem slp_on {a b x1 y1 x2 y2 l : F} (o1 : OnC a b (some (x1, y1))) (h : Slp a x1 y1 x2 y2 l) : OnC a b (some (l * l - x1 - x2, l * (x1 - (l * l - x1 - x2)) - y1)) := by
  have o1 : y1 * y1 = x1 * x1 * x1 + a * x1 + b := o1
  obtain ⟨a1, a2⟩ := h
  show (l * (x1 - (l * l - x1 - x2)) - y1) * (l * (x1 - (l * l - x1 - x2)) - y1) = (l * l - x1 - x2) * (l * l - x1 - x2) * (l * l - x1 - x2) + a * (l * l - x1 - x2) + b
  have e : y2 = y1 + l * (x2 - x1) := by grind
  subst e
  have ea : a = l * (y1 + (y1 + l * (x2 - x1))) - x1 * x1 - x1 * x2 - x2 * x2 := by grind
  subst ea
  grind
theorem on_neg' {a b : F} {P : Pt F} (h : OnC a b P) : OnC a b (pneg P) := by
  cases P with
  | none => exact trivial
  | some p =>
    obtain ⟨x, y⟩ := p
    have h : y * y = x * x * x + a * x + b := h
    show -y * -y = x * x * x + a * x + b
    grind
theorem pneg_pneg (P : Pt F) : pneg (pneg P) = P := by
  cases P with
  | none => rfl
  | some p =>
    obtain ⟨x, y⟩ := p
    show some (x, - -y) = some (x, y)
    rw [show - -y = y by grind]
theorem padd_zero (a : F) (P : Pt F) : padd a P none = P := by
  cases P <;> rfl
theorem zero_padd (a : F) (P : Pt F) : padd a none P = P := rfl
theorem padd_neg (a : F) (P : Pt F) : padd a P (pneg P) = none := by
  cases P with
  | none => rfl
  | some p =>
    obtain ⟨x, y⟩ := p
    show padd a (some (x, y)) (some (x, -y)) = none
    rw [padd_eq, if_pos ⟨rfl, by grind⟩]
theorem neg_padd (a : F) (P : Pt F) : padd a (pneg P) P = none := by
  have := padd_neg a (pneg P)
  rwa [pneg_pneg] at this
theorem padd_none {a : F} {P Q : Pt F} (h : padd a P Q = none) : Q = pneg P := by
  cases P with
  | none => exact h
  | some p =>
    cases Q with
    | none => cases h
    | some q =>
      obtain ⟨x1, y1⟩ := p
      obtain ⟨x2, y2⟩ := q
      rw [padd_eq] at h
      by_cases c : x1 = x2 ∧ y1 + y2 = 0
      · show some (x2, y2) = some (x1, -y1)
        rw [c.1, show y2 = -y1 by grind]
      · rw [if_neg c] at h
        cases h
theorem padd_on {a b : F} (h2 : (2 : F) ≠ 0) {P Q : Pt F} (hP : OnC a b P) (hQ : OnC a b Q) : OnC a b (padd a P Q) := by
  cases P with
  | none => exact hQ
  | some p =>
    cases Q with
    | none => exact hP
    | some q =>
      obtain ⟨x1, y1⟩ := p
      obtain ⟨x2, y2⟩ := q
      by_cases c : x1 = x2 ∧ y1 + y2 = 0
      · rw [padd_eq, if_pos c]; exact trivial
      · obtain ⟨l, s, e⟩ := slp_ex h2 hP hQ c
        rw [e]
        exact slp_on hP s
theorem slp_symm {a x1 y1 x2 y2 l : F} (h : Slp a x1 y1 x2 y2 l) : Slp a x2 y2 x1 y1 l := by
  obtain ⟨a1, a2⟩ := h
  exact ⟨by grind, by grind⟩
theorem padd_comm {a b : F} (h2 : (2 : F) ≠ 0) {P Q : Pt F} (hP : OnC a b P) (hQ : OnC a b Q) : padd a P Q = padd a Q P := by
  cases P with
  | none => exact (padd_zero a Q).symm
  | some p =>
    cases Q with
    | none => rfl
    | some q =>
      obtain ⟨x1, y1⟩ := p
      obtain ⟨x2, y2⟩ := q
      by_cases c : x1 = x2 ∧ y1 + y2 = 0
      · have c' : x2 = x1 ∧ y2 + y1 = 0 := ⟨c.1.symm, by have := c.2; grind⟩
        rw [padd_eq, padd_eq, if_pos c, if_pos c']
      · have c' : ¬ (x2 = x1 ∧ y2 + y1 = 0) := fun z => c ⟨z.1.symm, by have := z.2; grind⟩
        obtain ⟨l, s, e⟩ := slp_ex h2 hP hQ c
        rw [e, padd_slp h2 hQ hP c' (slp_symm s), show l * l - x2 - x1 = l * l - x1 - x2 by grind]
        have := s.1
        congr 2
        grind
theorem pneg_padd {a b : F} (h2 : (2 : F) ≠ 0) {P Q : Pt F} (hP : OnC a b P) (hQ : OnC a b Q) : pneg (padd a P Q) = padd a (pneg P) (pneg Q) := by
  cases P with
  | none => rfl
  | some p =>
    cases Q with
    | none => rfl
    | some q =>
      obtain ⟨x1, y1⟩ := p
      obtain ⟨x2, y2⟩ := q
      by_cases c : x1 = x2 ∧ y1 + y2 = 0
      · have c' : x1 = x2 ∧ -y1 + -y2 = 0 := ⟨c.1, by have := c.2; grind⟩
        show pneg (padd a (some (x1, y1)) (some (x2, y2))) = padd a (some (x1, -y1)) (some (x2, -y2))
        rw [padd_eq, padd_eq, if_pos c, if_pos c']; rfl
      · have c' : ¬ (x1 = x2 ∧ -y1 + -y2 = 0) := fun z => c ⟨z.1, by have := z.2; grind⟩
        obtain ⟨l, s, e⟩ := slp_ex h2 hP hQ c
        have s' : Slp a x1 (-y1) x2 (-y2) (-l) := ⟨by have := s.1; grind, by have := s.2; grind⟩
        have e' := padd_slp h2 (on_neg' hP) (on_neg' hQ) c' s'
        show pneg (padd a (some (x1, y1)) (some (x2, y2))) = padd a (some (x1, -y1)) (some (x2, -y2))
        rw [e, e', show -l * -l = l * l by grind]
        show some (_, _) = some (_, _)
        congr 2
        grind
/-- the curve has no double point -/
def NoSing {R : Type} [CommRing R] (a b : R) : Prop := 4 * a * a * a + 27 * b * b ≠ 0
theorem NoSing.ns {a b x : F} (h : NoSing a b) (o : OnC a b (some (x, 0))) (hd : 3 * x * x + a = 0) : False := by
  have o : (0 : F) * 0 = x * x * x + a * x + b := o
  apply h
  have ea : a = -(3 * x * x) := by grind
  have eb : b = 2 * x * x * x := by grind
  subst ea eb
  grind
theorem padd_cancel {a b : F} (h2 : (2 : F) ≠ 0) (N : NoSing a b) {P Q : Pt F} (hP : OnC a b P) (hQ : OnC a b Q) : padd a (padd a P Q) (pneg Q) = P := by
  cases P with
  | none => exact padd_neg a Q
  | some p =>
    cases Q with
    | none => rfl
    | some q =>
      obtain ⟨x1, y1⟩ := p
      obtain ⟨x2, y2⟩ := q
      by_cases c : x1 = x2 ∧ y1 + y2 = 0
      · have : padd a (some (x1, y1)) (some (x2, y2)) = none := by rw [padd_eq, if_pos c]
        rw [this]
        show some (x2, -y2) = some (x1, y1)
        rw [c.1, show y1 = -y2 by have := c.2; grind]
      · obtain ⟨l, s, e⟩ := slp_ex h2 hP hQ c
        have o3 := slp_on hP s
        rw [e]
        obtain ⟨s1, s2⟩ := s
        have oq : y2 * y2 = x2 * x2 * x2 + a * x2 + b := hQ
        generalize hx3 : l * l - x1 - x2 = x3 at *
        generalize hy3 : l * (x1 - x3) - y1 = y3 at *
        have s' : Slp a x3 y3 x2 (-y2) (-l) := by
          refine ⟨by grind, ?_⟩
          have : l * (y2 - y3) = x3 * x3 + x3 * x2 + x2 * x2 + a := by
            have e3 : y3 = l * (x2 - x3) - y2 := by grind
            have ea : a = l * (y1 + y2) - x1 * x1 - x1 * x2 - x2 * x2 := by grind
            have e1 : y1 = y2 - l * (x2 - x1) := by grind
            have ex : x1 = l * l - x2 - x3 := by grind
            subst e3 ea e1 ex
            grind
          grind
        have c' : ¬ (x3 = x2 ∧ y3 + -y2 = 0) := by
          intro z
          obtain ⟨z1, z2⟩ := z
          have t1 : 2 * y2 = 0 := by
            have := s'.1
            subst z1
            grind
          have y0 : y2 = 0 := f_cancel h2 t1
          have t2 := s'.2
          subst z1
          subst y0
          exact N.ns hQ (by grind)
        show padd a (some (x3, y3)) (some (x2, -y2)) = _
        rw [padd_slp h2 o3 (on_neg' hQ) c' s', show -l * -l - x3 - x2 = x1 by grind]
        congr 2
        grind
theorem padd_inj {a b : F} (h2 : (2 : F) ≠ 0) (N : NoSing a b) {P P' Q : Pt F} (hP : OnC a b P) (hP' : OnC a b P') (hQ : OnC a b Q) (e : padd a P Q = padd a P' Q) : P = P' := by
  rw [← padd_cancel h2 N hP hQ, e, padd_cancel h2 N hP' hQ]
/-! ### associativity -/
theorem as_x {x1 x2 x3 y2 l m N1 N2 D1 D2 : F}
  (E : 2 * y2 * (l - m) = m * m * (x3 - x2) - l * l * (x1 - x2) + x1 * x1 + x1 * x2 - x2 * x3 - x3 * x3)
  (hD1 : D1 = x3 - (l * l - x1 - x2)) (hD2 : D2 = x1 - (m * m - x2 - x3))
  (hN1 : N1 = 2 * y2 + m * (x3 - x2) - l * (x2 - (l * l - x1 - x2)))
  (hN2 : N2 = 2 * y2 + l * (x1 - x2) - m * (x2 - (m * m - x2 - x3))) :
  N1 * N1 * D2 * D2 - N2 * N2 * D1 * D1 = (l * l - m * m + 2 * x3 - 2 * x1) * D1 * D1 * D2 * D2 := by
  subst hD1 hD2 hN1 hN2
  grind
theorem as_y {x1 x2 x3 y1 y2 y3 l m N1 N2 D1 D2 : F}
  (E : 2 * y2 * (l - m) = m * m * (x3 - x2) - l * l * (x1 - x2) + x1 * x1 + x1 * x2 - x2 * x3 - x3 * x3)
  (hD1 : D1 = x3 - (l * l - x1 - x2)) (hD2 : D2 = x1 - (m * m - x2 - x3))
  (hN1 : N1 = 2 * y2 + m * (x3 - x2) - l * (x2 - (l * l - x1 - x2)))
  (hN2 : N2 = 2 * y2 + l * (x1 - x2) - m * (x2 - (m * m - x2 - x3)))
  (h1 : y1 = y2 + l * (x1 - x2)) (h3 : y3 = y2 + m * (x3 - x2)) :
  N1 * D2 * (2 * x3 * D1 * D1 + (l * l - x1 - x2) * D1 * D1 - N1 * N1) - N2 * D1 * (x1 * D1 * D1 + x3 * D1 * D1 + (l * l - x1 - x2) * D1 * D1 - N1 * N1) = (y3 - y1) * D1 * D1 * D1 * D2 := by
  subst hD1 hD2 hN1 hN2 h1 h3
  grind
theorem xx_aux {l m l2 m2 D1 D2 x1 x3 : F} (X : l2 * D1 * (l2 * D1) * D2 * D2 - m2 * D2 * (m2 * D2) * D1 * D1 = (l * l - m * m + 2 * x3 - 2 * x1) * D1 * D1 * D2 * D2) :
    D1 * (D1 * (D2 * (D2 * (l2 * l2 - m2 * m2 - (l * l - m * m + 2 * x3 - 2 * x1))))) = 0 := by grind
theorem xx_aux2 {l m l2 m2 x1 x2 x3 x4 x6 : F} (e : l2 * l2 - m2 * m2 - (l * l - m * m + 2 * x3 - 2 * x1) = 0) (h4 : l * l - x1 - x2 = x4) (h6 : m * m - x2 - x3 = x6) : l2 * l2 - x4 - x3 = m2 * m2 - x1 - x6 := by grind
theorem yy_aux2 {l2 m2 x1 x3 x4 y1 y3 y4 x : F} (e : l2 * (x3 - x) - m2 * (x1 - x) - (y3 - y1) = 0) (u1 : y3 - y4 = l2 * (x3 - x4)) : l2 * (x4 - x) - y4 = m2 * (x1 - x) - y1 := by grind
theorem yy_aux {l2 m2 D1 D2 x1 x3 x4 y1 y3 : F} (Y : l2 * D1 * D2 * (2 * x3 * D1 * D1 + x4 * D1 * D1 - l2 * D1 * (l2 * D1)) - m2 * D2 * D1 * (x1 * D1 * D1 + x3 * D1 * D1 + x4 * D1 * D1 - l2 * D1 * (l2 * D1)) = (y3 - y1) * D1 * D1 * D1 * D2) :
    D1 * (D1 * (D1 * (D2 * (l2 * (x3 - (l2 * l2 - x4 - x3)) - m2 * (x1 - (l2 * l2 - x4 - x3)) - (y3 - y1))))) = 0 := by grind
theorem as_gen {a b x1 y1 x2 y2 x3 y3 x4 y4 x6 y6 : F} (h2 : (2 : F) ≠ 0) (o1 : OnC a b (some (x1, y1))) (o2 : OnC a b (some (x2, y2))) (o3 : OnC a b (some (x3, y3)))
    (eS : padd a (some (x1, y1)) (some (x2, y2)) = some (x4, y4)) (eT : padd a (some (x2, y2)) (some (x3, y3)) = some (x6, y6)) (n1 : x4 ≠ x3) (n2 : x1 ≠ x6) :
    padd a (some (x4, y4)) (some (x3, y3)) = padd a (some (x1, y1)) (some (x6, y6)) := by
  have c1 : ¬ (x1 = x2 ∧ y1 + y2 = 0) := fun z => by rw [padd_eq, if_pos z] at eS; cases eS
  have c2 : ¬ (x2 = x3 ∧ y2 + y3 = 0) := fun z => by rw [padd_eq, if_pos z] at eT; cases eT
  have o4 : OnC a b (some (x4, y4)) := by rw [← eS]; exact padd_on h2 o1 o2
  have o6 : OnC a b (some (x6, y6)) := by rw [← eT]; exact padd_on h2 o2 o3
  obtain ⟨l, sl, el⟩ := slp_ex h2 o1 o2 c1
  obtain ⟨m, sm, em⟩ := slp_ex h2 o2 o3 c2
  have c3 : ¬ (x4 = x3 ∧ y4 + y3 = 0) := fun z => n1 z.1
  have c4 : ¬ (x1 = x6 ∧ y1 + y6 = 0) := fun z => n2 z.1
  obtain ⟨l2, sl2, el2⟩ := slp_ex h2 o4 o3 c3
  obtain ⟨m2, sm2, em2⟩ := slp_ex h2 o1 o6 c4
  rw [el2, em2]
  rw [el] at eS
  rw [em] at eT
  have e4 := Option.some.inj eS
  have e6 := Option.some.inj eT
  have x4e : l * l - x1 - x2 = x4 := congrArg Prod.fst e4
  have y4e := congrArg Prod.snd e4
  have x6e : m * m - x2 - x3 = x6 := congrArg Prod.fst e6
  have y6e := congrArg Prod.snd e6
  dsimp only at y4e y6e
  rw [x4e] at y4e
  rw [x6e] at y6e
  clear eS eT e4 e6 el em el2 em2 o1 o2 o3 o4 o6 c1 c2 c3 c4
  obtain ⟨s1, s2⟩ := sl
  obtain ⟨t1, t2⟩ := sm
  have u1 := sl2.1
  have v1 := sm2.1
  clear sl2 sm2
  have h1 : y1 = y2 + l * (x1 - x2) := by grind
  have h3 : y3 = y2 + m * (x3 - x2) := by grind
  have E : 2 * y2 * (l - m) = m * m * (x3 - x2) - l * l * (x1 - x2) + x1 * x1 + x1 * x2 - x2 * x3 - x3 * x3 := by
    have q : l * (y1 + y2) - m * (y2 + y3) = x1 * x1 + x1 * x2 - x2 * x3 - x3 * x3 := by grind
    rw [h1, h3] at q
    grind
  have hD1 : x3 - x4 = x3 - (l * l - x1 - x2) := by rw [x4e]
  have hD2 : x1 - x6 = x1 - (m * m - x2 - x3) := by rw [x6e]
  have hN1 : l2 * (x3 - x4) = 2 * y2 + m * (x3 - x2) - l * (x2 - (l * l - x1 - x2)) := by rw [x4e]; grind
  have hN2 : m2 * (x1 - x6) = 2 * y2 + l * (x1 - x2) - m * (x2 - (m * m - x2 - x3)) := by rw [x6e]; grind
  have X := as_x E hD1 hD2 hN1 hN2
  have Y := as_y E hD1 hD2 hN1 hN2 h1 h3
  rw [x4e] at Y
  have d1 : x3 - x4 ≠ 0 := by grind
  have d2 : x1 - x6 ≠ 0 := by grind
  generalize hp : x3 - x4 = D1 at *
  generalize hq : x1 - x6 = D2 at *
  have xx : l2 * l2 - x4 - x3 = m2 * m2 - x1 - x6 := xx_aux2 (f_cancel d2 (f_cancel d2 (f_cancel d1 (f_cancel d1 (xx_aux X))))) x4e x6e
  have yy : l2 * (x4 - (l2 * l2 - x4 - x3)) - y4 = m2 * (x1 - (m2 * m2 - x1 - x6)) - y1 := by
    rw [← xx]
    exact yy_aux2 (f_cancel d2 (f_cancel d1 (f_cancel d1 (f_cancel d1 (yy_aux Y))))) (by rw [hp]; exact u1)
  rw [yy, xx]
/-- (P+P)+R, but for one case -/
theorem as_dbl0 {a b : F} (h2 : (2 : F) ≠ 0) (N : NoSing a b) {P R : Pt F} (hP : OnC a b P) (hR : OnC a b R) (hn : padd a P P ≠ R) : padd a (padd a P P) R = padd a P (padd a P R) := by
  have nP := on_neg' hP
  have PP := padd_on h2 hP hP
  have nPP := padd_on h2 nP nP
  -- what is trivial
  by_cases e1 : padd a P P = none
  · have q := padd_none e1
    rw [e1, zero_padd]
    have : padd a P (padd a P R) = padd a (padd a R P) (pneg P) := by
      rw [padd_comm h2 hP (padd_on h2 hP hR), padd_comm h2 hP hR]
      rw [← q]
    rw [this, padd_cancel h2 N hR hP]
  by_cases e2 : padd a P R = none
  · have q := padd_none e2
    rw [e2, padd_zero, q]
    exact padd_cancel h2 N hP hP
  by_cases e3 : padd a (padd a P P) R = none
  · have q := padd_none e3
    rw [e3, q, pneg_padd h2 hP hP]
    have : padd a P (padd a (pneg P) (pneg P)) = pneg P := by
      rw [padd_comm h2 hP nPP]
      have := padd_cancel h2 N nP nP
      rwa [pneg_pneg] at this
    rw [this, padd_neg]
  by_cases e4 : padd a P (padd a P R) = none
  · have q := padd_none e4
    have : R = padd a (pneg P) (pneg P) := by
      have t := padd_cancel h2 N hR hP
      rw [padd_comm h2 hR hP, q] at t
      exact t.symm
    rw [e4, this, ← pneg_padd h2 hP hP, padd_neg]
  cases P with
  | none => rfl
  | some p =>
    cases R with
    | none => rw [padd_zero, padd_zero]
    | some r =>
      obtain ⟨x1, y1⟩ := p
      obtain ⟨x3, y3⟩ := r
      cases eS : padd a (some (x1, y1)) (some (x1, y1)) with
      | none => exact absurd eS e1
      | some s =>
        cases eT : padd a (some (x1, y1)) (some (x3, y3)) with
        | none => exact absurd eT e2
        | some t =>
          obtain ⟨x4, y4⟩ := s
          obtain ⟨x6, y6⟩ := t
          rw [eS] at e3 hn
          rw [eT] at e4
          have o4 : OnC a b (some (x4, y4)) := by rw [← eS]; exact PP
          have o6 : OnC a b (some (x6, y6)) := by rw [← eT]; exact padd_on h2 hP hR
          have same : ∀ {x y y' : F}, OnC a b (some (x, y)) → OnC a b (some (x, y')) → y = y' ∨ y + y' = 0 := by
            intro x y y' p q
            have p : y * y = x * x * x + a * x + b := p
            have q : y' * y' = x * x * x + a * x + b := q
            have : (y - y') * (y + y') = 0 := by grind
            rcases f_dom this with h | h
            · exact .inl (by grind)
            · exact .inr h
          have n1 : x4 ≠ x3 := by
            intro z
            subst z
            rcases same o4 hR with h | h
            · subst h; exact hn rfl
            · exact e3 (by rw [padd_eq, if_pos ⟨rfl, h⟩])
          have n2 : x1 ≠ x6 := by
            intro z
            subst z
            rcases same hP o6 with h | h
            · subst h
              -- P + R = P
              have q : padd a (some (x3, y3)) (some (x1, y1)) = padd a none (some (x1, y1)) := by
                rw [padd_comm h2 hR hP, eT]; rfl
              have := padd_inj h2 N hR (show OnC a b none from trivial) hP q
              cases this
            · exact e4 (by rw [padd_eq, if_pos ⟨rfl, h⟩])
          exact as_gen h2 hP hP hR eS eT n1 n2
theorem as_dbl {a b : F} (h2 : (2 : F) ≠ 0) (N : NoSing a b) {P R : Pt F} (hP : OnC a b P) (hR : OnC a b R) : padd a (padd a P P) R = padd a P (padd a P R) := by
  by_cases hn : padd a P P = R
  · subst hn
    have nP := on_neg' hP
    have hS := hR
    generalize eS : padd a P P = S at *
    -- S + -P = P
    have c0 : padd a S (pneg P) = P := by rw [← eS]; exact padd_cancel h2 N hP hP
    have key : padd a (padd a S S) (pneg P) = padd a S P := by
      by_cases h : padd a S S = pneg P
      · rw [h, ← pneg_padd h2 hP hP, eS]
        have c1 := padd_cancel h2 N hS hS
        rw [h] at c1
        have c1 := congrArg pneg c1
        rw [pneg_padd h2 nP (on_neg' hS), pneg_pneg, pneg_pneg, padd_comm h2 hP hS] at c1
        exact c1.symm
      · rw [as_dbl0 h2 N hS nP h, c0]
    have c2 := padd_cancel h2 N (padd_on h2 hS hS) nP
    rw [key, pneg_pneg] at c2
    rw [← c2, padd_comm h2 hP (padd_on h2 hP hS), padd_comm h2 hP hS]
  · exact as_dbl0 h2 N hP hR hn
theorem padd_assoc {a b : F} (h2 : (2 : F) ≠ 0) (N : NoSing a b) {P Q R : Pt F} (hP : OnC a b P) (hQ : OnC a b Q) (hR : OnC a b R) : padd a (padd a P Q) R = padd a P (padd a Q R) := by
  have nP := on_neg' hP
  have nQ := on_neg' hQ
  have nR := on_neg' hR
  have PQ := padd_on h2 hP hQ
  have QR := padd_on h2 hQ hR
  by_cases e1 : padd a P Q = none
  · have q := padd_none e1
    rw [e1, zero_padd, q, padd_comm h2 hP (padd_on h2 nP hR), padd_comm h2 nP hR]
    have := padd_cancel h2 N hR nP
    rw [pneg_pneg] at this
    exact this.symm
  by_cases e2 : padd a Q R = none
  · have q := padd_none e2
    rw [e2, padd_zero, q]
    exact padd_cancel h2 N hP hQ
  by_cases e3 : padd a (padd a P Q) R = none
  · have q := padd_none e3
    rw [e3, q, pneg_padd h2 hP hQ]
    have : padd a Q (padd a (pneg P) (pneg Q)) = pneg P := by
      rw [padd_comm h2 hQ (padd_on h2 nP nQ)]
      have := padd_cancel h2 N nP nQ
      rwa [pneg_pneg] at this
    rw [this, padd_neg]
  by_cases e4 : padd a P (padd a Q R) = none
  · have q := padd_none e4
    have : padd a P Q = pneg R := by
      have t : P = pneg (padd a Q R) := by rw [q, pneg_pneg]
      rw [t, pneg_padd h2 hQ hR, padd_comm h2 nQ nR]
      have := padd_cancel h2 N nR nQ
      rwa [pneg_pneg] at this
    rw [e4, this, neg_padd]
  by_cases d1 : P = Q
  · subst d1; exact as_dbl h2 N hP hR
  by_cases d2 : Q = R
  · subst d2
    have := as_dbl h2 N hQ hP
    rw [padd_comm h2 hP (padd_on h2 hQ hQ), this, padd_comm h2 (padd_on h2 hP hQ) hQ, padd_comm h2 hP hQ]
  by_cases d3 : padd a P Q = R
  · rw [d3]
    -- (R + R) + -P = R + Q
    have t := as_dbl h2 N hR nP
    have u : padd a R (pneg P) = Q := by
      rw [← d3, padd_comm h2 hP hQ]; exact padd_cancel h2 N hQ hP
    rw [u] at t
    have c := padd_cancel h2 N (padd_on h2 hR hR) nP
    rw [t, pneg_pneg] at c
    rw [← c, padd_comm h2 hP QR, padd_comm h2 hQ hR]
  by_cases d4 : P = padd a Q R
  · rw [← d4]
    have t := as_dbl h2 N hP nR
    have u : padd a P (pneg R) = Q := by
      rw [d4]; exact padd_cancel h2 N hQ hR
    rw [u] at t
    have c := padd_cancel h2 N (padd_on h2 hP hP) nR
    rw [t, pneg_pneg] at c
    exact c
  cases P with
  | none => rfl
  | some p =>
  cases R with
  | none => rw [padd_zero, padd_zero]
  | some r =>
  cases Q with
  | none => rw [padd_zero, zero_padd]
  | some q =>
    obtain ⟨x1, y1⟩ := p
    obtain ⟨x2, y2⟩ := q
    obtain ⟨x3, y3⟩ := r
    cases eS : padd a (some (x1, y1)) (some (x2, y2)) with
    | none => exact absurd eS e1
    | some s =>
      cases eT : padd a (some (x2, y2)) (some (x3, y3)) with
      | none => exact absurd eT e2
      | some t =>
        obtain ⟨x4, y4⟩ := s
        obtain ⟨x6, y6⟩ := t
        rw [eS] at e3 d3
        rw [eT] at e4 d4
        have o4 : OnC a b (some (x4, y4)) := by rw [← eS]; exact PQ
        have o6 : OnC a b (some (x6, y6)) := by rw [← eT]; exact QR
        have same : ∀ {x y y' : F}, OnC a b (some (x, y)) → OnC a b (some (x, y')) → y = y' ∨ y + y' = 0 := by
          intro x y y' p q
          have p : y * y = x * x * x + a * x + b := p
          have q : y' * y' = x * x * x + a * x + b := q
          have : (y - y') * (y + y') = 0 := by grind
          rcases f_dom this with h | h
          · exact .inl (by grind)
          · exact .inr h
        have n1 : x4 ≠ x3 := by
          intro z
          subst z
          rcases same o4 hR with h | h
          · subst h; exact d3 rfl
          · exact e3 (by rw [padd_eq, if_pos ⟨rfl, h⟩])
        have n2 : x1 ≠ x6 := by
          intro z
          subst z
          rcases same hP o6 with h | h
          · subst h; exact d4 rfl
          · exact e4 (by rw [padd_eq, if_pos ⟨rfl, h⟩])
        exact as_gen h2 hP hQ hR eS eT n1 n2
end
end Mi
set_option maxHeartbeats 1000000
namespace Mi
/-! ### the group of a short Weierstrass curve over residues -/
structure Cv where
  p : Nat
  a : Int
  b : Int
  pr : IsP p
  ge : 5 ≤ p
  a0 : 0 ≤ a
  a1 : a < p
  b0 : 0 ≤ b
  b1 : b < p
  ns : NoSing (zm p a) (zm p b)
instance (C : Cv) : Prm C.p := ⟨C.pr⟩
theorem Cv.two (C : Cv) : (2 : Zp C.p) ≠ 0 := z_ne_num 2 (by decide) (by have := C.ge; omega)
theorem Cv.three (C : Cv) : (3 : Zp C.p) ≠ 0 := z_ne_num 3 (by decide) (by have := C.ge; omega)
structure Cv.Pt (C : Cv) where
  v : Mi.Pt (Zp C.p)
  on : OnC (zm C.p C.a) (zm C.p C.b) v
theorem Cv.ext {C : Cv} {P Q : C.Pt} (h : P.v = Q.v) : P = Q := by cases P; cases Q; cases h; rfl
noncomputable instance (C : Cv) : Add C.Pt := ⟨fun P Q => ⟨padd (zm C.p C.a) P.v Q.v, padd_on C.two P.on Q.on⟩⟩
instance (C : Cv) : Zero C.Pt := ⟨⟨none, trivial⟩⟩
noncomputable instance (C : Cv) : Neg C.Pt := ⟨fun P => ⟨pneg P.v, on_neg' P.on⟩⟩
noncomputable instance (C : Cv) : Sub C.Pt := ⟨fun P Q => P + -Q⟩
noncomputable instance (C : Cv) : Lean.Grind.AddCommGroup C.Pt where
  add_zero := fun P => Cv.ext (padd_zero _ P.v)
  add_comm := fun P Q => Cv.ext (padd_comm C.two P.on Q.on)
  add_assoc := fun P Q R => Cv.ext (padd_assoc C.two C.ns P.on Q.on R.on)
  neg_add_cancel := fun P => Cv.ext (neg_padd _ P.v)
  sub_eq_add_neg := fun P Q => rfl
end Mi
set_option maxHeartbeats 40000000
namespace Mi
open Lean.Grind
section
variable {F : Type} [Field F]
/-! ### the sum of points of a twisted Edwards curve, over any field -/
theorem g_dom {x y : F} (h : x * y = 0) : x = 0 ∨ y = 0 := by
  by_cases hx : x = 0
  · exact .inl hx
  · refine .inr ?_
    have := Field.mul_inv_cancel hx
    grind
theorem g_cancel {x y : F} (hx : x ≠ 0) (h : x * y = 0) : y = 0 := (g_dom h).resolve_left hx
def OnE {R : Type} [CommRing R] (a d : R) (p : R × R) : Prop := a * p.1 * p.1 + p.2 * p.2 = 1 + d * p.1 * p.1 * p.2 * p.2
structure EdC {R : Type} [CommRing R] (a d : R) : Prop where
  two : (2 : R) ≠ 0
  sq : ∃ r, r * r = a ∧ r ≠ 0
  non : ∀ z : R, z * z ≠ d
noncomputable def eadd (a d : F) (p q : F × F) : F × F :=
  ((p.1 * q.2 + p.2 * q.1) * (1 + d * p.1 * q.1 * p.2 * q.2)⁻¹, (p.2 * q.2 - a * p.1 * q.1) * (1 - d * p.1 * q.1 * p.2 * q.2)⁻¹)
def eneg {R : Type} [CommRing R] (p : R × R) : R × R := (-p.1, p.2)
def ezero {R : Type} [CommRing R] : R × R := (0, 1)
theorem ed_sq {d x y r : F} (hn : ∀ z : F, z * z ≠ d) (hx : x ≠ 0) (h : y * y = d * x * x * r * r) (hr : r ≠ 0) : False := by
  have i := Field.mul_inv_cancel (a := x * r) (fun e => by rcases g_dom e with q | q; exact hx q; exact hr q)
  apply hn (y * (x * r)⁻¹)
  generalize (x * r)⁻¹ = v at *
  have : y * v * (y * v) = (y * y) * (v * v) := by grind
  rw [this, h]
  have : d * x * x * r * r * (v * v) = d * ((x * r * v) * (x * r * v)) := by grind
  rw [this, i]; grind
theorem ed_k1 {r d x1 y1 x2 y2 e : F} (o1 : r * r * x1 * x1 + y1 * y1 = 1 + d * x1 * x1 * y1 * y1) (o2 : r * r * x2 * x2 + y2 * y2 = 1 + d * x2 * x2 * y2 * y2) (he : e * e = 1) (h : d * x1 * x2 * y1 * y2 = e) :
    (r * x1 + e * y1) * (r * x1 + e * y1) = d * (x1 * y1) * (x1 * y1) * (r * x2 + y2) * (r * x2 + y2) := by
  have q2 : d * (x1 * y1) * (x1 * y1) * (r * x2 + y2) * (r * x2 + y2) = d * x1 * x1 * y1 * y1 * (r * r * x2 * x2 + y2 * y2) + 2 * r * (d * x1 * x2 * y1 * y2) * x1 * y1 := by grind
  have q3 : d * x1 * x1 * y1 * y1 * (1 + d * x2 * x2 * y2 * y2) = d * x1 * x1 * y1 * y1 + (d * x1 * x2 * y1 * y2) * (d * x1 * x2 * y1 * y2) := by grind
  rw [q2, o2, q3, h, he]
  have q4 : (r * x1 + e * y1) * (r * x1 + e * y1) = r * r * x1 * x1 + y1 * y1 * (e * e) + 2 * r * e * x1 * y1 := by grind
  rw [q4, he]
  grind
theorem ed_k2 {r d x1 y1 x2 y2 e : F} (o1 : r * r * x1 * x1 + y1 * y1 = 1 + d * x1 * x1 * y1 * y1) (o2 : r * r * x2 * x2 + y2 * y2 = 1 + d * x2 * x2 * y2 * y2) (he : e * e = 1) (h : d * x1 * x2 * y1 * y2 = e) :
    (r * x1 - e * y1) * (r * x1 - e * y1) = d * (x1 * y1) * (x1 * y1) * (r * x2 - y2) * (r * x2 - y2) := by
  have q2 : d * (x1 * y1) * (x1 * y1) * (r * x2 - y2) * (r * x2 - y2) = d * x1 * x1 * y1 * y1 * (r * r * x2 * x2 + y2 * y2) - 2 * r * (d * x1 * x2 * y1 * y2) * x1 * y1 := by grind
  have q3 : d * x1 * x1 * y1 * y1 * (1 + d * x2 * x2 * y2 * y2) = d * x1 * x1 * y1 * y1 + (d * x1 * x2 * y1 * y2) * (d * x1 * x2 * y1 * y2) := by grind
  rw [q2, o2, q3, h, he]
  have q4 : (r * x1 - e * y1) * (r * x1 - e * y1) = r * r * x1 * x1 + y1 * y1 * (e * e) - 2 * r * e * x1 * y1 := by grind
  rw [q4, he]
  grind
theorem ed_ne {a d x1 y1 x2 y2 e : F} (E : EdC a d) (o1 : OnE a d (x1, y1)) (o2 : OnE a d (x2, y2)) (he : e * e = 1) (h : d * x1 * x2 * y1 * y2 = e) : False := by
  have o1 : a * x1 * x1 + y1 * y1 = 1 + d * x1 * x1 * y1 * y1 := o1
  have o2 : a * x2 * x2 + y2 * y2 = 1 + d * x2 * x2 * y2 * y2 := o2
  obtain ⟨r, hr, r0⟩ := E.sq
  have e0 : e ≠ 0 := by
    intro z; subst z
    have : (1 : F) = 0 := by grind
    exact Field.zero_ne_one this.symm
  have hxy : x1 * y1 ≠ 0 := by
    intro z
    apply e0
    rw [← h]
    have : d * x1 * x2 * y1 * y2 = d * x2 * y2 * (x1 * y1) := by grind
    rw [this, z]; grind
  have hx2 : x2 ≠ 0 := by
    intro z; subst z; apply e0; rw [← h]; grind
  subst hr
  have k1 := ed_k1 o1 o2 he h
  have k2 := ed_k2 o1 o2 he h
  by_cases c1 : r * x2 + y2 = 0
  · by_cases c2 : r * x2 - y2 = 0
    · have t : 2 * (r * x2) = 0 := by grind
      exact hx2 (g_cancel r0 (g_cancel E.two t))
    · exact ed_sq E.non hxy k2 c2
  · exact ed_sq E.non hxy k1 c1
theorem ed_p {a d x1 y1 x2 y2 : F} (E : EdC a d) (o1 : OnE a d (x1, y1)) (o2 : OnE a d (x2, y2)) : 1 + d * x1 * x2 * y1 * y2 ≠ 0 := fun h => ed_ne E o1 o2 (e := -1) (by grind) (by grind)
theorem ed_m {a d x1 y1 x2 y2 : F} (E : EdC a d) (o1 : OnE a d (x1, y1)) (o2 : OnE a d (x2, y2)) : 1 - d * x1 * x2 * y1 * y2 ≠ 0 := fun h => ed_ne E o1 o2 (e := 1) (by grind) (by grind)
theorem ed_as_x {a d x1 y1 x2 y2 x3 y3 A B C D t s : F} (e1 : a*x1*x1+y1*y1 = 1+d*x1*x1*y1*y1) (e2 : a*x2*x2+y2*y2 = 1+d*x2*x2*y2*y2) (e3 : a*x3*x3+y3*y3 = 1+d*x3*x3*y3*y3)
  (hA : A = x1*y2+y1*x2) (hB : B = y1*y2-a*x1*x2) (hC : C = x2*y3+y2*x3) (hD : D = y2*y3-a*x2*x3) (ht : t = d*x1*x2*y1*y2) (hs : s = d*x2*x3*y2*y3) :
  (A*(1-t)*y3 + B*(1+t)*x3) * ((1-s*s)+d*C*D*x1*y1) = (x1*D*(1+s)+y1*C*(1-s)) * ((1-t*t)+d*A*B*x3*y3) := by
  subst hA hB hC hD ht hs
  grind
theorem ed_as_y {a d x1 y1 x2 y2 x3 y3 A B C D t s : F} (e1 : a*x1*x1+y1*y1 = 1+d*x1*x1*y1*y1) (e2 : a*x2*x2+y2*y2 = 1+d*x2*x2*y2*y2) (e3 : a*x3*x3+y3*y3 = 1+d*x3*x3*y3*y3)
  (hA : A = x1*y2+y1*x2) (hB : B = y1*y2-a*x1*x2) (hC : C = x2*y3+y2*x3) (hD : D = y2*y3-a*x2*x3) (ht : t = d*x1*x2*y1*y2) (hs : s = d*x2*x3*y2*y3) :
  (B*(1+t)*y3 - a*(A*(1-t)*x3)) * ((1-s*s)-d*C*D*x1*y1) = (y1*D*(1+s)-a*(x1*C*(1-s))) * ((1-t*t)-d*A*B*x3*y3) := by
  subst hA hB hC hD ht hs
  grind
theorem ed_clos {a d x1 y1 x2 y2 A B t : F} (e1 : a*x1*x1+y1*y1 = 1+d*x1*x1*y1*y1) (e2 : a*x2*x2+y2*y2 = 1+d*x2*x2*y2*y2)
  (hA : A = x1*y2+y1*x2) (hB : B = y1*y2-a*x1*x2) (ht : t = d*x1*x2*y1*y2) :
  a*A*A*(1-t)*(1-t) + B*B*(1+t)*(1+t) = (1-t*t)*(1-t*t) + d*A*A*B*B := by
  subst hA hB ht
  grind
theorem eadd_on {a d : F} (E : EdC a d) {p q : F × F} (hp : OnE a d p) (hq : OnE a d q) : OnE a d (eadd a d p q) := by
  obtain ⟨x1, y1⟩ := p
  obtain ⟨x2, y2⟩ := q
  have u := Field.mul_inv_cancel (ed_p E hp hq)
  have v := Field.mul_inv_cancel (ed_m E hp hq)
  have k := ed_clos (A := x1*y2+y1*x2) (B := y1*y2-a*x1*x2) (t := d*x1*x2*y1*y2) hp hq rfl rfl rfl
  show a * ((x1 * y2 + y1 * x2) * (1 + d * x1 * x2 * y1 * y2)⁻¹) * ((x1 * y2 + y1 * x2) * (1 + d * x1 * x2 * y1 * y2)⁻¹) + ((y1 * y2 - a * x1 * x2) * (1 - d * x1 * x2 * y1 * y2)⁻¹) * ((y1 * y2 - a * x1 * x2) * (1 - d * x1 * x2 * y1 * y2)⁻¹) = 1 + d * ((x1 * y2 + y1 * x2) * (1 + d * x1 * x2 * y1 * y2)⁻¹) * ((x1 * y2 + y1 * x2) * (1 + d * x1 * x2 * y1 * y2)⁻¹) * ((y1 * y2 - a * x1 * x2) * (1 - d * x1 * x2 * y1 * y2)⁻¹) * ((y1 * y2 - a * x1 * x2) * (1 - d * x1 * x2 * y1 * y2)⁻¹)
  generalize x1 * y2 + y1 * x2 = A at *
  generalize y1 * y2 - a * x1 * x2 = B at *
  generalize d * x1 * x2 * y1 * y2 = t at *
  generalize (1 + t)⁻¹ = i at *
  generalize (1 - t)⁻¹ = j at *
  have k := congrArg (fun z => z * (i * i * j * j)) k
  have m : a * A * A * (1 - t) * (1 - t) * (i * i * j * j) = a * (A * i) * (A * i) * (((1 - t) * j) * ((1 - t) * j)) := by grind
  have m2 : B * B * (1 + t) * (1 + t) * (i * i * j * j) = B * j * (B * j) * (((1 + t) * i) * ((1 + t) * i)) := by grind
  have m3 : (1 - t * t) * (1 - t * t) * (i * i * j * j) = (((1 + t) * i) * ((1 + t) * i)) * (((1 - t) * j) * ((1 - t) * j)) := by grind
  rw [u] at m2 m3
  rw [v] at m m3
  grind
theorem eadd_comm (a d : F) (p q : F × F) : eadd a d p q = eadd a d q p := by
  obtain ⟨x1, y1⟩ := p
  obtain ⟨x2, y2⟩ := q
  show ((x1 * y2 + y1 * x2) * (1 + d * x1 * x2 * y1 * y2)⁻¹, (y1 * y2 - a * x1 * x2) * (1 - d * x1 * x2 * y1 * y2)⁻¹) = ((x2 * y1 + y2 * x1) * (1 + d * x2 * x1 * y2 * y1)⁻¹, (y2 * y1 - a * x2 * x1) * (1 - d * x2 * x1 * y2 * y1)⁻¹)
  rw [show d * x2 * x1 * y2 * y1 = d * x1 * x2 * y1 * y2 by grind, show x2 * y1 + y2 * x1 = x1 * y2 + y1 * x2 by grind, show y2 * y1 - a * x2 * x1 = y1 * y2 - a * x1 * x2 by grind]
theorem f_inv1 : (1 : F)⁻¹ = 1 := by
  have := Field.mul_inv_cancel (a := (1 : F)) (fun h => Field.zero_ne_one h.symm)
  grind
theorem eadd_zero (a d : F) (p : F × F) : eadd a d p ezero = p := by
  obtain ⟨x1, y1⟩ := p
  show ((x1 * 1 + y1 * 0) * (1 + d * x1 * 0 * y1 * 1)⁻¹, (y1 * 1 - a * x1 * 0) * (1 - d * x1 * 0 * y1 * 1)⁻¹) = (x1, y1)
  rw [show 1 + d * x1 * 0 * y1 * 1 = 1 by grind, show 1 - d * x1 * 0 * y1 * 1 = 1 by grind, f_inv1]
  congr 1 <;> grind
theorem ezero_on (a d : F) : OnE a d (ezero : F × F) := by
  show a * 0 * 0 + 1 * 1 = 1 + d * 0 * 0 * 1 * 1
  grind
theorem eneg_on {a d : F} {p : F × F} (h : OnE a d p) : OnE a d (eneg p) := by
  obtain ⟨x, y⟩ := p
  have h : a * x * x + y * y = 1 + d * x * x * y * y := h
  show a * -x * -x + y * y = 1 + d * -x * -x * y * y
  grind
theorem eneg_eneg (p : F × F) : eneg (eneg p) = p := by
  obtain ⟨x, y⟩ := p
  show (- -x, y) = (x, y)
  rw [show - -x = x by grind]
theorem eadd_neg {a d : F} (E : EdC a d) {p : F × F} (h : OnE a d p) : eadd a d p (eneg p) = ezero := by
  have v := Field.mul_inv_cancel (ed_m E h (eneg_on h))
  obtain ⟨x, y⟩ := p
  have h : a * x * x + y * y = 1 + d * x * x * y * y := h
  show ((x * y + y * -x) * (1 + d * x * -x * y * y)⁻¹, (y * y - a * x * -x) * (1 - d * x * -x * y * y)⁻¹) = (0, 1)
  have v : (1 - d * x * -x * y * y) * (1 - d * x * -x * y * y)⁻¹ = 1 := v
  rw [show y * y - a * x * -x = 1 - d * x * -x * y * y by grind, v, show x * y + y * -x = 0 by grind, show (0 : F) * (1 + d * x * -x * y * y)⁻¹ = 0 by grind]
theorem f_div {x y u v i j : F} (hu : u * i = 1) (hv : v * j = 1) (h : x * v = y * u) : x * i = y * j := by
  have : x * i * (v * j) = y * j * (u * i) := by
    have : x * i * (v * j) = (x * v) * (i * j) := by grind
    rw [this, h]; grind
  rw [hu, hv] at this
  grind
theorem ed_frac {A B t x3 y3 k i j v d : F} (u1 : (1 + t) * i = 1) (u2 : (1 - t) * j = 1) (u3 : (1 + d * (A * i) * x3 * (B * j) * y3) * v = 1) :
    ((1 - t * t) + d * A * B * x3 * y3) * (v * i * j) = 1 ∧ (A * i * y3 + B * j * x3) * v = (A * (1 - t) * y3 + B * (1 + t) * x3) * (v * i * j) := by
  have q : (1 - t * t) * (i * j) = 1 := by
    have : (1 - t * t) * (i * j) = ((1 + t) * i) * ((1 - t) * j) := by grind
    rw [this, u1, u2]; grind
  constructor
  · have : ((1 - t * t) + d * A * B * x3 * y3) * (v * i * j) = ((1 - t * t) * (i * j) + d * (A * i) * x3 * (B * j) * y3) * v := by grind
    rw [this, q, u3]
  · have : (A * (1 - t) * y3 + B * (1 + t) * x3) * (v * i * j) = (A * i * ((1 - t) * j) * y3 + B * j * ((1 + t) * i) * x3) * v := by grind
    rw [this, u1, u2]; grind
theorem ed_fracy {a A B t x3 y3 i j v d : F} (u1 : (1 + t) * i = 1) (u2 : (1 - t) * j = 1) (u3 : (1 - d * (A * i) * x3 * (B * j) * y3) * v = 1) :
    ((1 - t * t) - d * A * B * x3 * y3) * (v * i * j) = 1 ∧ (B * j * y3 - a * (A * i) * x3) * v = (B * (1 + t) * y3 - a * (A * (1 - t) * x3)) * (v * i * j) := by
  have q : (1 - t * t) * (i * j) = 1 := by
    have : (1 - t * t) * (i * j) = ((1 + t) * i) * ((1 - t) * j) := by grind
    rw [this, u1, u2]; grind
  constructor
  · have : ((1 - t * t) - d * A * B * x3 * y3) * (v * i * j) = ((1 - t * t) * (i * j) - d * (A * i) * x3 * (B * j) * y3) * v := by grind
    rw [this, q, u3]
  · have : (B * (1 + t) * y3 - a * (A * (1 - t) * x3)) * (v * i * j) = (B * j * ((1 + t) * i) * y3 - a * (A * i * ((1 - t) * j)) * x3) * v := by grind
    rw [this, u1, u2]; grind
theorem eadd_assoc {a d : F} (E : EdC a d) {p q r : F × F} (hp : OnE a d p) (hq : OnE a d q) (hr : OnE a d r) : eadd a d (eadd a d p q) r = eadd a d p (eadd a d q r) := by
  have hpq := eadd_on E hp hq
  have hqr := eadd_on E hq hr
  have u1 := Field.mul_inv_cancel (ed_p E hp hq)
  have u2 := Field.mul_inv_cancel (ed_m E hp hq)
  have w1 := Field.mul_inv_cancel (ed_p E hq hr)
  have w2 := Field.mul_inv_cancel (ed_m E hq hr)
  have u3 := Field.mul_inv_cancel (ed_p E hpq hr)
  have u4 := Field.mul_inv_cancel (ed_m E hpq hr)
  have w3 := Field.mul_inv_cancel (ed_p E hqr hp)
  have w4 := Field.mul_inv_cancel (ed_m E hqr hp)
  rw [eadd_comm a d p (eadd a d q r)]
  obtain ⟨x1, y1⟩ := p
  obtain ⟨x2, y2⟩ := q
  obtain ⟨x3, y3⟩ := r
  have X := ed_as_x (A := x1*y2+y1*x2) (B := y1*y2-a*x1*x2) (C := x2*y3+y2*x3) (D := y2*y3-a*x2*x3) (t := d*x1*x2*y1*y2) (s := d*x2*x3*y2*y3) hp hq hr rfl rfl rfl rfl rfl rfl
  have Y := ed_as_y (A := x1*y2+y1*x2) (B := y1*y2-a*x1*x2) (C := x2*y3+y2*x3) (D := y2*y3-a*x2*x3) (t := d*x1*x2*y1*y2) (s := d*x2*x3*y2*y3) hp hq hr rfl rfl rfl rfl rfl rfl
  clear hpq hqr hp hq hr
  unfold eadd
  generalize x1 * y2 + y1 * x2 = A at *
  generalize y1 * y2 - a * x1 * x2 = B at *
  generalize d * x1 * x2 * y1 * y2 = t at *
  generalize x2 * y3 + y2 * x3 = C at *
  generalize y2 * y3 - a * x2 * x3 = D at *
  generalize d * x2 * x3 * y2 * y3 = s at *
  generalize (1 + t)⁻¹ = i at *
  generalize (1 - t)⁻¹ = j at *
  generalize (1 + s)⁻¹ = k at *
  generalize (1 - s)⁻¹ = l at *
  generalize (1 + d * (A * i) * x3 * (B * j) * y3)⁻¹ = v at *
  generalize (1 - d * (A * i) * x3 * (B * j) * y3)⁻¹ = v' at *
  generalize (1 + d * (C * k) * x1 * (D * l) * y1)⁻¹ = w at *
  generalize (1 - d * (C * k) * x1 * (D * l) * y1)⁻¹ = w' at *
  obtain ⟨a1, a2⟩ := ed_frac (x3 := x3) (y3 := y3) (k := 0) u1 u2 u3
  obtain ⟨b1, b2⟩ := ed_frac (x3 := x1) (y3 := y1) (k := 0) w1 w2 w3
  obtain ⟨c1, c2⟩ := ed_fracy (a := a) (x3 := x3) (y3 := y3) u1 u2 u4
  obtain ⟨d1, d2⟩ := ed_fracy (a := a) (x3 := x1) (y3 := y1) w1 w2 w4
  rw [a2, b2, c2, d2]
  congr 1
  · exact f_div a1 b1 (by rw [X]; grind)
  · exact f_div c1 d1 (by rw [Y]; grind)
end
end Mi
set_option maxHeartbeats 1000000
namespace Mi
/-! ### the group of a twisted Edwards curve over residues -/
structure Ev where
  p : Nat
  a : Int
  d : Int
  pr : IsP p
  ge : 3 ≤ p
  a0 : 0 ≤ a
  a1 : a < p
  d0 : 0 ≤ d
  d1 : d < p
  ec : EdC (zm p a) (zm p d)
instance ev_iprm (C : Ev) : Prm C.p := ⟨C.pr⟩
structure Ev.Pt (C : Ev) where
  v : Zp C.p × Zp C.p
  on : OnE (zm C.p C.a) (zm C.p C.d) v
theorem Ev.ext {C : Ev} {P Q : C.Pt} (h : P.v = Q.v) : P = Q := by cases P; cases Q; cases h; rfl
noncomputable instance ev_iadd (C : Ev) : Add C.Pt := ⟨fun P Q => ⟨eadd (zm C.p C.a) (zm C.p C.d) P.v Q.v, eadd_on C.ec P.on Q.on⟩⟩
noncomputable instance ev_izero (C : Ev) : Zero C.Pt := ⟨⟨ezero, ezero_on _ _⟩⟩
noncomputable instance ev_ineg (C : Ev) : Neg C.Pt := ⟨fun P => ⟨eneg P.v, eneg_on P.on⟩⟩
noncomputable instance ev_isub (C : Ev) : Sub C.Pt := ⟨fun P Q => P + -Q⟩
noncomputable instance ev_igrp (C : Ev) : Lean.Grind.AddCommGroup C.Pt where
  add_zero := fun P => Ev.ext (eadd_zero _ _ P.v)
  add_comm := fun P Q => Ev.ext (eadd_comm _ _ P.v Q.v)
  add_assoc := fun P Q R => Ev.ext (eadd_assoc C.ec P.on Q.on R.on)
  neg_add_cancel := fun P => Ev.ext (by
    show eadd _ _ (eneg P.v) P.v = ezero
    rw [eadd_comm]; exact eadd_neg C.ec P.on)
  sub_eq_add_neg := fun P Q => rfl
end Mi
set_option maxHeartbeats 4000000
namespace Mi
/-! ### a small number that is no square, for every prime below a million -/
def hw (q n e : Nat) : Nat := Nat.mod (Nat.mul (Nat.pow (Nat.mod (Nat.mul (Nat.pow (Nat.mod (Nat.mul (Nat.pow (Nat.pow q (Nat.div e 32768)) 32) (Nat.pow q (Nat.mod (Nat.div e 1024) 32))) n) 32) (Nat.pow q (Nat.mod (Nat.div e 32) 32))) n) 32) (Nat.pow q (Nat.mod e 32))) n
def hq (n e q : Nat) : Bool := Nat.ble 2 (hw q n e)
def gq (n g : Nat) : Bool := cond (Nat.ble 2 g) (cond (Nat.beq g n) false true) false
def gp (n P : Nat) : Bool := gq n (Nat.gcd P n)
def hn (n : Nat) : Bool := cond (gp n 6541380665835015) true ( cond (gp n 596198451071780903153248370436854441997784023331563115247063987027) true ( cond (gp n 16006124734833987812847898611219010509505243630710716917888649760122127893181413598427915663451817162356659929017218771548569) true ( cond (gp n 156915385718474740098380762903186294114572096170121960499858850559942028601603169440122137228528621637326135015991638173008859629176502034135881932577526949280554593084948790072440148477583174209256086407374119) true (cond (hq n (Nat.div n 2) 2) true ( cond (hq n (Nat.div n 2) 3) true ( cond (hq n (Nat.div n 2) 5) true ( cond (hq n (Nat.div n 2) 7) true ( cond (hq n (Nat.div n 2) 11) true ( cond (hq n (Nat.div n 2) 13) true ( cond (hq n (Nat.div n 2) 17) true ( cond (hq n (Nat.div n 2) 19) true ( cond (hq n (Nat.div n 2) 23) true ( cond (hq n (Nat.div n 2) 29) true ( cond (hq n (Nat.div n 2) 31) true ( cond (hq n (Nat.div n 2) 37) true ( cond (hq n (Nat.div n 2) 41) true ( cond (hq n (Nat.div n 2) 43) true ( cond (hq n (Nat.div n 2) 47) true ( cond (hq n (Nat.div n 2) 53) true ( cond (hq n (Nat.div n 2) 59) true ( cond (hq n (Nat.div n 2) 61) true ( cond (hq n (Nat.div n 2) 67) true ( cond (hq n (Nat.div n 2) 71) true ( cond (hq n (Nat.div n 2) 73) true ( cond (hq n (Nat.div n 2) 79) true ( cond (hq n (Nat.div n 2) 83) true ( cond (hq n (Nat.div n 2) 89) true ( cond (hq n (Nat.div n 2) 97) true ( cond (hq n (Nat.div n 2) 101) true (false))))))))))))))))))))))))))))))
def hr : Nat → Nat → Bool
  | 0, n => hn (Nat.add (Nat.mul 2 n) 1)
  | k + 1, n => cond (hr k (Nat.mul 2 n)) (hr k (Nat.add (Nat.mul 2 n) 1)) false
theorem hw_st (x b n : Nat) : (x % n) ^ 32 * b % n = x ^ 32 * b % n := by rw [Nat.mul_mod, ← Nat.pow_mod, ← Nat.mul_mod]
theorem hw_eq (q n e : Nat) : hw q n e = q ^ e % n := by
  have e1 : e = (((e / 32768) * 32 + e / 1024 % 32) * 32 + e / 32 % 32) * 32 + e % 32 := by omega
  show (((q ^ (e / 32768)) ^ 32 * q ^ (e / 1024 % 32) % n) ^ 32 * q ^ (e / 32 % 32) % n) ^ 32 * q ^ (e % 32) % n = _
  have st2 : ∀ a b c : Nat, ((a % n) ^ 32 * b) ^ 32 * c % n = (a ^ 32 * b) ^ 32 * c % n := fun a b c => by
    rw [Nat.mul_mod, Nat.pow_mod, hw_st, ← Nat.pow_mod, ← Nat.mul_mod]
  rw [hw_st, st2]
  conv => rhs; rw [e1]
  simp only [Nat.pow_add, Nat.pow_mul]
theorem hr_ok : ∀ (k n m : Nat), hr k n = true → n * 2 ^ k ≤ m → m < (n + 1) * 2 ^ k → hn (2 * m + 1) = true
  | 0, n, m, h, h1, h2 => by
    have : m = n := by simp at h1 h2; omega
    subst this; exact h
  | k + 1, n, m, h, h1, h2 => by
    have h : cond (hr k (2 * n)) (hr k (2 * n + 1)) false = true := h
    cases a : hr k (2 * n) with
    | false => rw [a] at h; cases h
    | true =>
      rw [a] at h
      have b : hr k (2 * n + 1) = true := h
      rw [Nat.pow_succ] at h1 h2
      by_cases c : m < (2 * n + 1) * 2 ^ k
      · exact hr_ok k (2 * n) m a (by rw [Nat.mul_comm 2 n, Nat.mul_assoc, Nat.mul_comm 2]; omega) c
      · refine hr_ok k (2 * n + 1) m b (by omega) ?_
        rw [show 2 * n + 1 + 1 = (n + 1) * 2 by omega, Nat.mul_assoc, Nat.mul_comm 2]
        omega
theorem hq_ok {p : Nat} (hp : IsP p) (ho : p % 2 = 1) {q : Nat} (h : hq p (Nat.div p 2) q = true) : q ^ ((p - 1) / 2) % p = p - 1 := by
  have h : 2 ≤ hw q p (p / 2) := Nat.le_of_ble_eq_true h
  have e : p / 2 = (p - 1) / 2 := by omega
  rw [hw_eq, e] at h
  have hd : ¬ p ∣ q := by
    intro d
    have h1 := hp.1
    have : p ∣ q ^ ((p - 1) / 2) := by
      have : (p - 1) / 2 = (p - 1) / 2 - 1 + 1 := by omega
      rw [this, Nat.pow_succ]
      exact Nat.dvd_trans d (Nat.dvd_mul_left ..)
    rw [Nat.mod_eq_zero_of_dvd this] at h
    omega
  have f := half_pow hp ho (a := (q : Int)) (fun d => hd (Int.natCast_dvd_natCast.mp d))
  have c : ((q : Int) ^ ((p - 1) / 2) % (p : Int)) = ((q ^ ((p - 1) / 2) % p : Nat) : Int) := by
    rw [Int.natCast_emod, Int.natCast_pow]
  rw [c] at f
  omega
theorem gp_no {p P : Nat} (hp : IsP p) : gp p P = false := by
  show gq p (Nat.gcd P p) = false
  rcases hp.2 _ (Nat.gcd_dvd_right P p) with h | h
  · rw [h]; rfl
  · rw [h]
    show cond (Nat.ble 2 p) (cond (Nat.beq p p) false true) false = false
    rw [Nat.beq_refl]
    cases Nat.ble 2 p <;> rfl
theorem cond_or {b c : Bool} (h : cond b true c = true) : b = true ∨ c = true := by cases b <;> simp_all
theorem hn_ok {p : Nat} (hp : IsP p) (ho : p % 2 = 1) (h : hn p = true) : ∃ q : Nat, 2 ≤ q ∧ q ≤ 101 ∧ q ^ ((p - 1) / 2) % p = p - 1 := by
  unfold hn at h
  simp only [gp_no hp, cond_false] at h
  rcases cond_or h with g | h
  · exact ⟨2, by decide, by decide, hq_ok hp ho g⟩
  rcases cond_or h with g | h
  · exact ⟨3, by decide, by decide, hq_ok hp ho g⟩
  rcases cond_or h with g | h
  · exact ⟨5, by decide, by decide, hq_ok hp ho g⟩
  rcases cond_or h with g | h
  · exact ⟨7, by decide, by decide, hq_ok hp ho g⟩
  rcases cond_or h with g | h
  · exact ⟨11, by decide, by decide, hq_ok hp ho g⟩
  rcases cond_or h with g | h
  · exact ⟨13, by decide, by decide, hq_ok hp ho g⟩
  rcases cond_or h with g | h
  · exact ⟨17, by decide, by decide, hq_ok hp ho g⟩
  rcases cond_or h with g | h
  · exact ⟨19, by decide, by decide, hq_ok hp ho g⟩
  rcases cond_or h with g | h
  · exact ⟨23, by decide, by decide, hq_ok hp ho g⟩
  rcases cond_or h with g | h
  · exact ⟨29, by decide, by decide, hq_ok hp ho g⟩
  rcases cond_or h with g | h
  · exact ⟨31, by decide, by decide, hq_ok hp ho g⟩
  rcases cond_or h with g | h
  · exact ⟨37, by decide, by decide, hq_ok hp ho g⟩
  rcases cond_or h with g | h
  · exact ⟨41, by decide, by decide, hq_ok hp ho g⟩
  rcases cond_or h with g | h
  · exact ⟨43, by decide, by decide, hq_ok hp ho g⟩
  rcases cond_or h with g | h
  · exact ⟨47, by decide, by decide, hq_ok hp ho g⟩
  rcases cond_or h with g | h
  · exact ⟨53, by decide, by decide, hq_ok hp ho g⟩
  rcases cond_or h with g | h
  · exact ⟨59, by decide, by decide, hq_ok hp ho g⟩
  rcases cond_or h with g | h
  · exact ⟨61, by decide, by decide, hq_ok hp ho g⟩
  rcases cond_or h with g | h
  · exact ⟨67, by decide, by decide, hq_ok hp ho g⟩
  rcases cond_or h with g | h
  · exact ⟨71, by decide, by decide, hq_ok hp ho g⟩
  rcases cond_or h with g | h
  · exact ⟨73, by decide, by decide, hq_ok hp ho g⟩
  rcases cond_or h with g | h
  · exact ⟨79, by decide, by decide, hq_ok hp ho g⟩
  rcases cond_or h with g | h
  · exact ⟨83, by decide, by decide, hq_ok hp ho g⟩
  rcases cond_or h with g | h
  · exact ⟨89, by decide, by decide, hq_ok hp ho g⟩
  rcases cond_or h with g | h
  · exact ⟨97, by decide, by decide, hq_ok hp ho g⟩
  rcases cond_or h with g | h
  · exact ⟨101, by decide, by decide, hq_ok hp ho g⟩
  cases h
theorem hs_0 : (hn 3 && hn 5 && hn 7 && hn 9 && hn 11 && hn 13 && hn 15) = true := by decide +kernel
theorem hs_3 : hr 3 1 = true := by decide +kernel
theorem hs_4 : hr 4 1 = true := by decide +kernel
theorem hs_5 : hr 5 1 = true := by decide +kernel
theorem hs_6 : hr 6 1 = true := by decide +kernel
theorem hs_7 : hr 7 1 = true := by decide +kernel
theorem hs_8 : hr 8 1 = true := by decide +kernel
theorem hs_9 : hr 9 1 = true := by decide +kernel
theorem hs_10 : hr 10 1 = true := by decide +kernel
theorem hs_11 : hr 11 1 = true := by decide +kernel
theorem hs_12 : hr 12 1 = true := by decide +kernel
theorem hs_all {m : Nat} (h1 : 1 ≤ m) (h2 : m < 8192) : hn (2 * m + 1) = true := by
  by_cases s : m < 8
  · have h := hs_0
    simp only [Bool.and_eq_true] at h
    rcases (by omega : m = 1 ∨ m = 2 ∨ m = 3 ∨ m = 4 ∨ m = 5 ∨ m = 6 ∨ m = 7) with rfl | rfl | rfl | rfl | rfl | rfl | rfl
    · exact h.1.1.1.1.1.1
    · exact h.1.1.1.1.1.2
    · exact h.1.1.1.1.2
    · exact h.1.1.1.2
    · exact h.1.1.2
    · exact h.1.2
    · exact h.2
  by_cases s : m < 16
  · exact hr_ok 3 1 m hs_3 (by omega) (by omega)
  by_cases s : m < 32
  · exact hr_ok 4 1 m hs_4 (by omega) (by omega)
  by_cases s : m < 64
  · exact hr_ok 5 1 m hs_5 (by omega) (by omega)
  by_cases s : m < 128
  · exact hr_ok 6 1 m hs_6 (by omega) (by omega)
  by_cases s : m < 256
  · exact hr_ok 7 1 m hs_7 (by omega) (by omega)
  by_cases s : m < 512
  · exact hr_ok 8 1 m hs_8 (by omega) (by omega)
  by_cases s : m < 1024
  · exact hr_ok 9 1 m hs_9 (by omega) (by omega)
  by_cases s : m < 2048
  · exact hr_ok 10 1 m hs_10 (by omega) (by omega)
  by_cases s : m < 4096
  · exact hr_ok 11 1 m hs_11 (by omega) (by omega)
  by_cases s : m < 8192
  · exact hr_ok 12 1 m hs_12 (by omega) (by omega)
  omega
theorem hr_1 : hr 13 1 = true := by decide +kernel
theorem hr_2 : hr 13 2 = true := by decide +kernel
theorem hr_3 : hr 13 3 = true := by decide +kernel
theorem hr_4 : hr 13 4 = true := by decide +kernel
theorem hr_5 : hr 13 5 = true := by decide +kernel
theorem hr_6 : hr 13 6 = true := by decide +kernel
theorem hr_7 : hr 13 7 = true := by decide +kernel
theorem hr_8 : hr 13 8 = true := by decide +kernel
theorem hr_9 : hr 13 9 = true := by decide +kernel
theorem hr_10 : hr 13 10 = true := by decide +kernel
theorem hr_11 : hr 13 11 = true := by decide +kernel
theorem hr_12 : hr 13 12 = true := by decide +kernel
theorem hr_13 : hr 13 13 = true := by decide +kernel
theorem hr_14 : hr 13 14 = true := by decide +kernel
theorem hr_15 : hr 13 15 = true := by decide +kernel
theorem hr_16 : hr 13 16 = true := by decide +kernel
theorem hr_17 : hr 13 17 = true := by decide +kernel
theorem hr_18 : hr 13 18 = true := by decide +kernel
theorem hr_19 : hr 13 19 = true := by decide +kernel
theorem hr_20 : hr 13 20 = true := by decide +kernel
theorem hr_21 : hr 13 21 = true := by decide +kernel
theorem hr_22 : hr 13 22 = true := by decide +kernel
theorem hr_23 : hr 13 23 = true := by decide +kernel
theorem hr_24 : hr 13 24 = true := by decide +kernel
theorem hr_25 : hr 13 25 = true := by decide +kernel
theorem hr_26 : hr 13 26 = true := by decide +kernel
theorem hr_27 : hr 13 27 = true := by decide +kernel
theorem hr_28 : hr 13 28 = true := by decide +kernel
theorem hr_29 : hr 13 29 = true := by decide +kernel
theorem hr_30 : hr 13 30 = true := by decide +kernel
theorem hr_31 : hr 13 31 = true := by decide +kernel
theorem hr_32 : hr 13 32 = true := by decide +kernel
theorem hr_33 : hr 13 33 = true := by decide +kernel
theorem hr_34 : hr 13 34 = true := by decide +kernel
theorem hr_35 : hr 13 35 = true := by decide +kernel
theorem hr_36 : hr 13 36 = true := by decide +kernel
theorem hr_37 : hr 13 37 = true := by decide +kernel
theorem hr_38 : hr 13 38 = true := by decide +kernel
theorem hr_39 : hr 13 39 = true := by decide +kernel
theorem hr_40 : hr 13 40 = true := by decide +kernel
theorem hr_41 : hr 13 41 = true := by decide +kernel
theorem hr_42 : hr 13 42 = true := by decide +kernel
theorem hr_43 : hr 13 43 = true := by decide +kernel
theorem hr_44 : hr 13 44 = true := by decide +kernel
theorem hr_45 : hr 13 45 = true := by decide +kernel
theorem hr_46 : hr 13 46 = true := by decide +kernel
theorem hr_47 : hr 13 47 = true := by decide +kernel
theorem hr_48 : hr 13 48 = true := by decide +kernel
theorem hr_49 : hr 13 49 = true := by decide +kernel
theorem hr_50 : hr 13 50 = true := by decide +kernel
theorem hr_51 : hr 13 51 = true := by decide +kernel
theorem hr_52 : hr 13 52 = true := by decide +kernel
theorem hr_53 : hr 13 53 = true := by decide +kernel
theorem hr_54 : hr 13 54 = true := by decide +kernel
theorem hr_55 : hr 13 55 = true := by decide +kernel
theorem hr_56 : hr 13 56 = true := by decide +kernel
theorem hr_57 : hr 13 57 = true := by decide +kernel
theorem hr_58 : hr 13 58 = true := by decide +kernel
theorem hr_59 : hr 13 59 = true := by decide +kernel
theorem hr_60 : hr 13 60 = true := by decide +kernel
theorem hr_61 : hr 13 61 = true := by decide +kernel
theorem hr_all {m : Nat} (h1 : 1 ≤ m) (h2 : m < 507904) : hn (2 * m + 1) = true := by
  by_cases s : m < 8192
  · exact hs_all h1 s
  by_cases s : m < 16384
  · exact hr_ok 13 1 m hr_1 (by omega) (by omega)
  by_cases s : m < 24576
  · exact hr_ok 13 2 m hr_2 (by omega) (by omega)
  by_cases s : m < 32768
  · exact hr_ok 13 3 m hr_3 (by omega) (by omega)
  by_cases s : m < 40960
  · exact hr_ok 13 4 m hr_4 (by omega) (by omega)
  by_cases s : m < 49152
  · exact hr_ok 13 5 m hr_5 (by omega) (by omega)
  by_cases s : m < 57344
  · exact hr_ok 13 6 m hr_6 (by omega) (by omega)
  by_cases s : m < 65536
  · exact hr_ok 13 7 m hr_7 (by omega) (by omega)
  by_cases s : m < 73728
  · exact hr_ok 13 8 m hr_8 (by omega) (by omega)
  by_cases s : m < 81920
  · exact hr_ok 13 9 m hr_9 (by omega) (by omega)
  by_cases s : m < 90112
  · exact hr_ok 13 10 m hr_10 (by omega) (by omega)
  by_cases s : m < 98304
  · exact hr_ok 13 11 m hr_11 (by omega) (by omega)
  by_cases s : m < 106496
  · exact hr_ok 13 12 m hr_12 (by omega) (by omega)
  by_cases s : m < 114688
  · exact hr_ok 13 13 m hr_13 (by omega) (by omega)
  by_cases s : m < 122880
  · exact hr_ok 13 14 m hr_14 (by omega) (by omega)
  by_cases s : m < 131072
  · exact hr_ok 13 15 m hr_15 (by omega) (by omega)
  by_cases s : m < 139264
  · exact hr_ok 13 16 m hr_16 (by omega) (by omega)
  by_cases s : m < 147456
  · exact hr_ok 13 17 m hr_17 (by omega) (by omega)
  by_cases s : m < 155648
  · exact hr_ok 13 18 m hr_18 (by omega) (by omega)
  by_cases s : m < 163840
  · exact hr_ok 13 19 m hr_19 (by omega) (by omega)
  by_cases s : m < 172032
  · exact hr_ok 13 20 m hr_20 (by omega) (by omega)
  by_cases s : m < 180224
  · exact hr_ok 13 21 m hr_21 (by omega) (by omega)
  by_cases s : m < 188416
  · exact hr_ok 13 22 m hr_22 (by omega) (by omega)
  by_cases s : m < 196608
  · exact hr_ok 13 23 m hr_23 (by omega) (by omega)
  by_cases s : m < 204800
  · exact hr_ok 13 24 m hr_24 (by omega) (by omega)
  by_cases s : m < 212992
  · exact hr_ok 13 25 m hr_25 (by omega) (by omega)
  by_cases s : m < 221184
  · exact hr_ok 13 26 m hr_26 (by omega) (by omega)
  by_cases s : m < 229376
  · exact hr_ok 13 27 m hr_27 (by omega) (by omega)
  by_cases s : m < 237568
  · exact hr_ok 13 28 m hr_28 (by omega) (by omega)
  by_cases s : m < 245760
  · exact hr_ok 13 29 m hr_29 (by omega) (by omega)
  by_cases s : m < 253952
  · exact hr_ok 13 30 m hr_30 (by omega) (by omega)
  by_cases s : m < 262144
  · exact hr_ok 13 31 m hr_31 (by omega) (by omega)
  by_cases s : m < 270336
  · exact hr_ok 13 32 m hr_32 (by omega) (by omega)
  by_cases s : m < 278528
  · exact hr_ok 13 33 m hr_33 (by omega) (by omega)
  by_cases s : m < 286720
  · exact hr_ok 13 34 m hr_34 (by omega) (by omega)
  by_cases s : m < 294912
  · exact hr_ok 13 35 m hr_35 (by omega) (by omega)
  by_cases s : m < 303104
  · exact hr_ok 13 36 m hr_36 (by omega) (by omega)
  by_cases s : m < 311296
  · exact hr_ok 13 37 m hr_37 (by omega) (by omega)
  by_cases s : m < 319488
  · exact hr_ok 13 38 m hr_38 (by omega) (by omega)
  by_cases s : m < 327680
  · exact hr_ok 13 39 m hr_39 (by omega) (by omega)
  by_cases s : m < 335872
  · exact hr_ok 13 40 m hr_40 (by omega) (by omega)
  by_cases s : m < 344064
  · exact hr_ok 13 41 m hr_41 (by omega) (by omega)
  by_cases s : m < 352256
  · exact hr_ok 13 42 m hr_42 (by omega) (by omega)
  by_cases s : m < 360448
  · exact hr_ok 13 43 m hr_43 (by omega) (by omega)
  by_cases s : m < 368640
  · exact hr_ok 13 44 m hr_44 (by omega) (by omega)
  by_cases s : m < 376832
  · exact hr_ok 13 45 m hr_45 (by omega) (by omega)
  by_cases s : m < 385024
  · exact hr_ok 13 46 m hr_46 (by omega) (by omega)
  by_cases s : m < 393216
  · exact hr_ok 13 47 m hr_47 (by omega) (by omega)
  by_cases s : m < 401408
  · exact hr_ok 13 48 m hr_48 (by omega) (by omega)
  by_cases s : m < 409600
  · exact hr_ok 13 49 m hr_49 (by omega) (by omega)
  by_cases s : m < 417792
  · exact hr_ok 13 50 m hr_50 (by omega) (by omega)
  by_cases s : m < 425984
  · exact hr_ok 13 51 m hr_51 (by omega) (by omega)
  by_cases s : m < 434176
  · exact hr_ok 13 52 m hr_52 (by omega) (by omega)
  by_cases s : m < 442368
  · exact hr_ok 13 53 m hr_53 (by omega) (by omega)
  by_cases s : m < 450560
  · exact hr_ok 13 54 m hr_54 (by omega) (by omega)
  by_cases s : m < 458752
  · exact hr_ok 13 55 m hr_55 (by omega) (by omega)
  by_cases s : m < 466944
  · exact hr_ok 13 56 m hr_56 (by omega) (by omega)
  by_cases s : m < 475136
  · exact hr_ok 13 57 m hr_57 (by omega) (by omega)
  by_cases s : m < 483328
  · exact hr_ok 13 58 m hr_58 (by omega) (by omega)
  by_cases s : m < 491520
  · exact hr_ok 13 59 m hr_59 (by omega) (by omega)
  by_cases s : m < 499712
  · exact hr_ok 13 60 m hr_60 (by omega) (by omega)
  by_cases s : m < 507904
  · exact hr_ok 13 61 m hr_61 (by omega) (by omega)
  omega
theorem small_non {p : Nat} (hp : IsP p) (ho : p % 2 = 1) (h : p < 1015808) : ∃ q : Nat, 2 ≤ q ∧ q ≤ 101 ∧ q ^ ((p - 1) / 2) % p = p - 1 := by
  have h2 := hp.1
  have := hr_all (m := p / 2) (by omega) (by omega)
  rw [show 2 * (p / 2) + 1 = p by omega] at this
  exact hn_ok hp ho this
end Mi
set_option maxHeartbeats 4000000
namespace Mi
open PySem PySem.Spec L2
def topS (i : Nat) : Stmt := PySem.Challenge.pw_curveseal_k13_long_multiples.main.body.getD i (.Pass ⟨0, 0, 0, 0⟩)

structure O_EdwardsCurve where
  f_prime : Int
  f_a : Int
  f_d : Int
instance : ToD O_EdwardsCurve := ⟨fun x => .obj "EdwardsCurve" ["prime", "a", "d"] [toD x.f_prime, toD x.f_a, toD x.f_d]⟩
structure O_EdwardsGroup where
  f_name : Str
  f_kind : Str
  f_curve : O_EdwardsCurve
  f_prime : Int
  f_base : (T2 Int Int)
  f_order : Int
  f_cofactor : Int
  f_size : Int
  f_order_size : Int
instance : ToD O_EdwardsGroup := ⟨fun x => .obj "EdwardsGroup" ["name", "kind", "curve", "prime", "base", "order", "cofactor", "size", "order_size"] [toD x.f_name, toD x.f_kind, toD x.f_curve, toD x.f_prime, toD x.f_base, toD x.f_order, toD x.f_cofactor, toD x.f_size, toD x.f_order_size]⟩
structure O_Curve where
  f_prime : Int
  f_a : Int
  f_b : Int
instance : ToD O_Curve := ⟨fun x => .obj "Curve" ["prime", "a", "b"] [toD x.f_prime, toD x.f_a, toD x.f_b]⟩
structure O_Group where
  f_name : Str
  f_kind : Str
  f_curve : O_Curve
  f_prime : Int
  f_base : (T2 Int Int)
  f_order : Int
  f_cofactor : Int
  f_size : Int
  f_order_size : Int
instance : ToD O_Group := ⟨fun x => .obj "Group" ["name", "kind", "curve", "prime", "base", "order", "cofactor", "size", "order_size"] [toD x.f_name, toD x.f_kind, toD x.f_curve, toD x.f_prime, toD x.f_base, toD x.f_order, toD x.f_cofactor, toD x.f_size, toD x.f_order_size]⟩
abbrev s_bits_from_top : Stmt := topS 2
theorem sc_bits_from_top : FnScope ["number", "at"] ["number"] (defScope s_bits_from_top) := ⟨rfl, rfl, rfl, by decide +kernel, rfl, by decide +kernel, by decide +kernel⟩
abbrev s_multiply_by_bits : Stmt := topS 3
theorem sc_multiply_by_bits : FnScope ["curve", "neutral", "factor", "point", "result", "doubled", "rest"] ["curve", "neutral", "factor", "point"] (defScope s_multiply_by_bits) := ⟨rfl, rfl, rfl, by decide +kernel, rfl, by decide +kernel, by decide +kernel⟩
abbrev s_is_whole : Stmt := topS 12
theorem sc_is_whole : FnScope ["value"] ["value"] (defScope s_is_whole) := ⟨rfl, rfl, rfl, by decide +kernel, rfl, by decide +kernel, by decide +kernel⟩
abbrev s_is_residue : Stmt := topS 14
theorem sc_is_residue : FnScope ["value", "modulus"] ["value", "modulus"] (defScope s_is_residue) := ⟨rfl, rfl, rfl, by decide +kernel, rfl, by decide +kernel, by decide +kernel⟩
abbrev s_is_residue_pair : Stmt := topS 15
theorem sc_is_residue_pair : FnScope ["value", "modulus", "item"] ["value", "modulus"] (defScope s_is_residue_pair) := ⟨rfl, rfl, rfl, by decide +kernel, rfl, by decide +kernel, by decide +kernel⟩
abbrev s_bezout : Stmt := topS 16
theorem sc_bezout : FnScope ["a", "b", "first", "second", "times", "rest"] ["a", "b"] (defScope s_bezout) := ⟨rfl, rfl, rfl, by decide +kernel, rfl, by decide +kernel, by decide +kernel⟩
abbrev s_inverse : Stmt := topS 17
theorem sc_inverse : FnScope ["a", "modulus", "divisor", "factor", "_"] ["a", "modulus"] (defScope s_inverse) := ⟨rfl, rfl, rfl, by decide +kernel, rfl, by decide +kernel, by decide +kernel⟩
abbrev s_power : Stmt := topS 18
theorem sc_power : FnScope ["a", "exponent", "modulus", "result", "square", "rest"] ["a", "exponent", "modulus"] (defScope s_power) := ⟨rfl, rfl, rfl, by decide +kernel, rfl, by decide +kernel, by decide +kernel⟩
abbrev s_square_class : Stmt := topS 19
theorem sc_square_class : FnScope ["a", "prime"] ["a", "prime"] (defScope s_square_class) := ⟨rfl, rfl, rfl, by decide +kernel, rfl, by decide +kernel, by decide +kernel⟩
abbrev s_to_jacobian : Stmt := topS 22
theorem sc_to_jacobian : FnScope ["point"] ["point"] (defScope s_to_jacobian) := ⟨rfl, rfl, rfl, by decide +kernel, rfl, by decide +kernel, by decide +kernel⟩
abbrev s_from_jacobian : Stmt := topS 23
theorem sc_from_jacobian : FnScope ["curve", "triple", "x", "y", "z", "scale", "square"] ["curve", "triple"] (defScope s_from_jacobian) := ⟨rfl, rfl, rfl, by decide +kernel, rfl, by decide +kernel, by decide +kernel⟩
abbrev s_double_jacobian : Stmt := topS 24
theorem sc_double_jacobian : FnScope ["curve", "triple", "x", "y", "z", "p", "y_square", "s", "m", "x3", "y3"] ["curve", "triple"] (defScope s_double_jacobian) := ⟨rfl, rfl, rfl, by decide +kernel, rfl, by decide +kernel, by decide +kernel⟩
abbrev s_add_jacobian : Stmt := topS 25
theorem sc_add_jacobian : FnScope ["curve", "first", "second", "p", "u1", "s1", "u2", "s2", "h", "r", "h_square", "h_cube", "v", "x3", "y3"] ["curve", "first", "second"] (defScope s_add_jacobian) := ⟨rfl, rfl, rfl, by decide +kernel, rfl, by decide +kernel, by decide +kernel⟩
abbrev s_u_scaled : Stmt := topS 26
theorem sc_u_scaled : FnScope ["triple", "z", "prime", "square"] ["triple", "z", "prime"] (defScope s_u_scaled) := ⟨rfl, rfl, rfl, by decide +kernel, rfl, by decide +kernel, by decide +kernel⟩
abbrev s_multiply_jacobian : Stmt := topS 27
theorem sc_multiply_jacobian : FnScope ["curve", "factor", "point", "start", "result", "bit"] ["curve", "factor", "point"] (defScope s_multiply_jacobian) := ⟨rfl, rfl, rfl, by decide +kernel, rfl, by decide +kernel, by decide +kernel⟩
abbrev s_EdwardsCurve_init : Stmt := inClass (topS 30) 0
theorem sc_EdwardsCurve_init : FnScope ["self", "prime", "a", "d"] ["self", "prime", "a", "d"] (defScope s_EdwardsCurve_init) := ⟨rfl, rfl, rfl, by decide +kernel, rfl, by decide +kernel, by decide +kernel⟩
abbrev s_EdwardsCurve_has : Stmt := inClass (topS 30) 1
theorem sc_EdwardsCurve_has : FnScope ["self", "point", "x_square", "y_square"] ["self", "point"] (defScope s_EdwardsCurve_has) := ⟨rfl, rfl, rfl, by decide +kernel, rfl, by decide +kernel, by decide +kernel⟩
abbrev s_EdwardsCurve_negate : Stmt := inClass (topS 30) 2
theorem sc_EdwardsCurve_negate : FnScope ["self", "point"] ["self", "point"] (defScope s_EdwardsCurve_negate) := ⟨rfl, rfl, rfl, by decide +kernel, rfl, by decide +kernel, by decide +kernel⟩
abbrev s_EdwardsCurve_add : Stmt := inClass (topS 30) 3
theorem sc_EdwardsCurve_add : FnScope ["self", "first", "second", "x1", "y1", "x2", "y2", "t", "x3", "y3"] ["self", "first", "second"] (defScope s_EdwardsCurve_add) := ⟨rfl, rfl, rfl, by decide +kernel, rfl, by decide +kernel, by decide +kernel⟩
abbrev s_to_extended : Stmt := topS 33
theorem sc_to_extended : FnScope ["curve", "point", "x", "y"] ["curve", "point"] (defScope s_to_extended) := ⟨rfl, rfl, rfl, by decide +kernel, rfl, by decide +kernel, by decide +kernel⟩
abbrev s_from_extended : Stmt := topS 34
theorem sc_from_extended : FnScope ["curve", "four", "scale"] ["curve", "four"] (defScope s_from_extended) := ⟨rfl, rfl, rfl, by decide +kernel, rfl, by decide +kernel, by decide +kernel⟩
abbrev s_add_extended : Stmt := topS 35
theorem sc_add_extended : FnScope ["curve", "first", "second", "x1", "y1", "z1", "t1", "x2", "y2", "z2", "t2", "p", "zz", "dtt", "e", "f", "g", "h"] ["curve", "first", "second"] (defScope s_add_extended) := ⟨rfl, rfl, rfl, by decide +kernel, rfl, by decide +kernel, by decide +kernel⟩
abbrev s_multiply_extended : Stmt := topS 36
theorem sc_multiply_extended : FnScope ["curve", "factor", "point", "start", "result", "bit"] ["curve", "factor", "point"] (defScope s_multiply_extended) := ⟨rfl, rfl, rfl, by decide +kernel, rfl, by decide +kernel, by decide +kernel⟩
abbrev s_u_byte_size : Stmt := topS 38
theorem sc_u_byte_size : FnScope ["number"] ["number"] (defScope s_u_byte_size) := ⟨rfl, rfl, rfl, by decide +kernel, rfl, by decide +kernel, by decide +kernel⟩
abbrev s_Group_super__init__ : Stmt := inClass (topS 39) 0
theorem sc_Group_super__init__ : FnScope ["self", "name", "kind", "curve", "base", "order", "cofactor"] ["self", "name", "kind", "curve", "base", "order", "cofactor"] (defScope s_Group_super__init__) := ⟨rfl, rfl, rfl, by decide +kernel, rfl, by decide +kernel, by decide +kernel⟩
abbrev s_Group_init : Stmt := inClass (topS 40) 0
theorem sc_Group_init : FnScopeS ["self", "name", "curve", "base", "order", "cofactor"] ["self", "name", "curve", "base", "order", "cofactor"] (defScope s_Group_init) := ⟨rfl, rfl, rfl, by decide +kernel, rfl, by decide +kernel, by decide +kernel, by decide +kernel, rfl, rfl⟩
abbrev s_Group_has : Stmt := inClass (topS 40) 2
theorem sc_Group_has : FnScope ["self", "point"] ["self", "point"] (defScope s_Group_has) := ⟨rfl, rfl, rfl, by decide +kernel, rfl, by decide +kernel, by decide +kernel⟩
abbrev s_Group_add : Stmt := inClass (topS 40) 3
theorem sc_Group_add : FnScope ["self", "first", "second"] ["self", "first", "second"] (defScope s_Group_add) := ⟨rfl, rfl, rfl, by decide +kernel, rfl, by decide +kernel, by decide +kernel⟩
abbrev s_Group_negate : Stmt := inClass (topS 40) 4
theorem sc_Group_negate : FnScope ["self", "point"] ["self", "point"] (defScope s_Group_negate) := ⟨rfl, rfl, rfl, by decide +kernel, rfl, by decide +kernel, by decide +kernel⟩
abbrev s_Group_multiply : Stmt := inClass (topS 40) 5
theorem sc_Group_multiply : FnScope ["self", "factor", "point"] ["self", "factor", "point"] (defScope s_Group_multiply) := ⟨rfl, rfl, rfl, by decide +kernel, rfl, by decide +kernel, by decide +kernel⟩
abbrev s_EdwardsGroup_super__init__ : Stmt := inClass (topS 39) 0
theorem sc_EdwardsGroup_super__init__ : FnScope ["self", "name", "kind", "curve", "base", "order", "cofactor"] ["self", "name", "kind", "curve", "base", "order", "cofactor"] (defScope s_EdwardsGroup_super__init__) := ⟨rfl, rfl, rfl, by decide +kernel, rfl, by decide +kernel, by decide +kernel⟩
abbrev s_EdwardsGroup_init : Stmt := inClass (topS 41) 0
theorem sc_EdwardsGroup_init : FnScopeS ["self", "name", "curve", "base", "order", "cofactor"] ["self", "name", "curve", "base", "order", "cofactor"] (defScope s_EdwardsGroup_init) := ⟨rfl, rfl, rfl, by decide +kernel, rfl, by decide +kernel, by decide +kernel, by decide +kernel, rfl, rfl⟩
abbrev s_EdwardsGroup_has : Stmt := inClass (topS 41) 2
theorem sc_EdwardsGroup_has : FnScope ["self", "point"] ["self", "point"] (defScope s_EdwardsGroup_has) := ⟨rfl, rfl, rfl, by decide +kernel, rfl, by decide +kernel, by decide +kernel⟩
abbrev s_EdwardsGroup_add : Stmt := inClass (topS 41) 3
theorem sc_EdwardsGroup_add : FnScope ["self", "first", "second"] ["self", "first", "second"] (defScope s_EdwardsGroup_add) := ⟨rfl, rfl, rfl, by decide +kernel, rfl, by decide +kernel, by decide +kernel⟩
abbrev s_EdwardsGroup_negate : Stmt := inClass (topS 41) 4
theorem sc_EdwardsGroup_negate : FnScope ["self", "point"] ["self", "point"] (defScope s_EdwardsGroup_negate) := ⟨rfl, rfl, rfl, by decide +kernel, rfl, by decide +kernel, by decide +kernel⟩
abbrev s_EdwardsGroup_multiply : Stmt := inClass (topS 41) 5
theorem sc_EdwardsGroup_multiply : FnScope ["self", "factor", "point"] ["self", "factor", "point"] (defScope s_EdwardsGroup_multiply) := ⟨rfl, rfl, rfl, by decide +kernel, rfl, by decide +kernel, by decide +kernel⟩
abbrev s_Curve_init : Stmt := inClass (topS 43) 0
theorem sc_Curve_init : FnScope ["self", "prime", "a", "b"] ["self", "prime", "a", "b"] (defScope s_Curve_init) := ⟨rfl, rfl, rfl, by decide +kernel, rfl, by decide +kernel, by decide +kernel⟩
abbrev s_Curve_has : Stmt := inClass (topS 43) 1
theorem sc_Curve_has : FnScope ["self", "point"] ["self", "point"] (defScope s_Curve_has) := ⟨rfl, rfl, rfl, by decide +kernel, rfl, by decide +kernel, by decide +kernel⟩
abbrev s_Curve_u_right_side : Stmt := inClass (topS 43) 2
theorem sc_Curve_u_right_side : FnScope ["self", "x"] ["self", "x"] (defScope s_Curve_u_right_side) := ⟨rfl, rfl, rfl, by decide +kernel, rfl, by decide +kernel, by decide +kernel⟩
abbrev s_Curve_negate : Stmt := inClass (topS 43) 3
theorem sc_Curve_negate : FnScope ["self", "point"] ["self", "point"] (defScope s_Curve_negate) := ⟨rfl, rfl, rfl, by decide +kernel, rfl, by decide +kernel, by decide +kernel⟩
abbrev s_Curve_add : Stmt := inClass (topS 43) 4
theorem sc_Curve_add : FnScope ["self", "first", "second", "slope", "x"] ["self", "first", "second"] (defScope s_Curve_add) := ⟨rfl, rfl, rfl, by decide +kernel, rfl, by decide +kernel, by decide +kernel⟩
abbrev s_Curve_u_slope : Stmt := inClass (topS 43) 5
theorem sc_Curve_u_slope : FnScope ["self", "first", "second", "rise", "run"] ["self", "first", "second"] (defScope s_Curve_u_slope) := ⟨rfl, rfl, rfl, by decide +kernel, rfl, by decide +kernel, by decide +kernel⟩
abbrev s_Curve_multiply : Stmt := inClass (topS 43) 7
theorem sc_Curve_multiply : FnScope ["self", "factor", "point"] ["self", "factor", "point"] (defScope s_Curve_multiply) := ⟨rfl, rfl, rfl, by decide +kernel, rfl, by decide +kernel, by decide +kernel⟩
abbrev s_group_kind : Stmt := topS 47
theorem sc_group_kind : FnScope ["name"] ["name"] (defScope s_group_kind) := ⟨rfl, rfl, rfl, by decide +kernel, rfl, by decide +kernel, by decide +kernel⟩
abbrev s_group_named : Stmt := topS 48
theorem sc_group_named : FnScope ["name", "prime", "a", "b", "base", "order", "d", "cofactor"] ["name"] (defScope s_group_named) := ⟨rfl, rfl, rfl, by decide +kernel, rfl, by decide +kernel, by decide +kernel⟩
abbrev s_u_law_cell : Stmt := topS 50
theorem sc_u_law_cell : FnScope ["script", "k"] ["script", "k"] (defScope s_u_law_cell) := ⟨rfl, rfl, rfl, by decide +kernel, rfl, by decide +kernel, by decide +kernel⟩
abbrev s_u_law_number : Stmt := topS 52
theorem sc_u_law_number : FnScope ["cell", "salt", "rest", "state", "number", "k"] ["cell", "salt"] (defScope s_u_law_number) := ⟨rfl, rfl, rfl, by decide +kernel, rfl, by decide +kernel, by decide +kernel⟩
abbrev s_law : Stmt := topS 53
theorem sc_law : FnScope ["script", "cell", "group", "start", "point", "factor", "one"] ["script"] (defScope s_law) := ⟨rfl, rfl, rfl, by decide +kernel, rfl, by decide +kernel, by decide +kernel⟩
def errs : List Str := ["CurveError", "OutOfRange", "Malformed", "NotAPoint", "NoInverse", "Refused"]
def ancE : List (Str × List Str) := [("CurveError", ["CurveError"]), ("OutOfRange", ["OutOfRange", "CurveError"]), ("Malformed", ["Malformed", "CurveError"]), ("NotAPoint", ["NotAPoint", "CurveError"]), ("NoInverse", ["NoInverse", "CurveError"]), ("Refused", ["Refused", "CurveError"])]
def subE (c d : Str) : Bool := match ancE.lookup c with | some l => decide (d ∈ l) | none => false
def k_INFINITY : (T3 Int Int Int) := (T3.mk (1 : Int) (1 : Int) (0 : Int))
def k_NEUTRAL_FOUR : (T4 Int Int Int Int) := (T4.mk (0 : Int) (1 : Int) (1 : Int) (0 : Int))
def k_EDWARDS_NUMBERS : List (Str × (T5 Int Int (T2 Int Int) Int Int)) := ([("ed25519", (T5.mk (57896044618658097711785492504343953926634992332820282019728792003956564819949 : Int) (37095705934669439343138083508754565189542113879843219016388785533085940283555 : Int) (T2.mk (15112221349535400772501151409588531511454012693041857206046113283949847762202 : Int) (46316835694926478169428394003475163141307993866256225615783033603165251855960 : Int)) (7237005577332262213973186563042994240857116359379907606001950938285454250989 : Int) (8 : Int))), ("e13", (T5.mk (13 : Int) (6 : Int) (T2.mk (10 : Int) (9 : Int)) (5 : Int) (4 : Int))), ("e29", (T5.mk (29 : Int) (2 : Int) (T2.mk (9 : Int) (19 : Int)) (7 : Int) (4 : Int))), ("e61", (T5.mk (61 : Int) (2 : Int) (T2.mk (22 : Int) (52 : Int)) (7 : Int) (8 : Int))), ("e241", (T5.mk (241 : Int) (7 : Int) (T2.mk (145 : Int) (174 : Int)) (29 : Int) (8 : Int))), ("e1021", (T5.mk (1021 : Int) (6 : Int) (T2.mk (705 : Int) (45 : Int)) (263 : Int) (4 : Int))), ("e65521", (T5.mk (65521 : Int) (115 : Int) (T2.mk (59650 : Int) (1991 : Int)) (16421 : Int) (4 : Int))), ("e31", (T5.mk (2147483629 : Int) (17 : Int) (T2.mk (1670607212 : Int) (365716599 : Int)) (536863057 : Int) (4 : Int)))] : List (Str × (T5 Int Int (T2 Int Int) Int Int)))
def k_WEIERSTRASS_NUMBERS : List (Str × (T5 Int Int Int (T2 Int Int) Int)) := ([("p256", (T5.mk (115792089210356248762697446949407573530086143415290314195533631308867097853951 : Int) (115792089210356248762697446949407573530086143415290314195533631308867097853948 : Int) (41058363725152142129326129780047268409114441015993725554835256314039467401291 : Int) (T2.mk (48439561293906451759052585252797914202762949526041747995844080717082404635286 : Int) (36134250956749795798585127919587881956611106672985015071877198253568414405109 : Int)) (115792089210356248762697446949407573529996955224135760342422259061068512044369 : Int))), ("secp256k1", (T5.mk (115792089237316195423570985008687907853269984665640564039457584007908834671663 : Int) (0 : Int) (7 : Int) (T2.mk (55066263022277343669578718895168534326250603453777594175500187360389116729240 : Int) (32670510020758816978083085130507043184471273380659243275938904335757337482424 : Int)) (115792089237316195423570985008687907852837564279074904382605163141518161494337 : Int))), ("w11", (T5.mk (11 : Int) (8 : Int) (1 : Int) (T2.mk (0 : Int) (10 : Int)) (17 : Int))), ("w23", (T5.mk (23 : Int) (1 : Int) (4 : Int) (T2.mk (0 : Int) (2 : Int)) (29 : Int))), ("w43", (T5.mk (43 : Int) (0 : Int) (7 : Int) (T2.mk (2 : Int) (12 : Int)) (31 : Int))), ("w79", (T5.mk (79 : Int) (0 : Int) (3 : Int) (T2.mk (1 : Int) (2 : Int)) (97 : Int))), ("w251", (T5.mk (251 : Int) (248 : Int) (26 : Int) (T2.mk (2 : Int) (84 : Int)) (223 : Int))), ("w1021", (T5.mk (1021 : Int) (1 : Int) (6 : Int) (T2.mk (2 : Int) (4 : Int)) (991 : Int))), ("w65521", (T5.mk (65521 : Int) (0 : Int) (17 : Int) (T2.mk (1 : Int) (1086 : Int)) (65353 : Int))), ("w31", (T5.mk (2147483647 : Int) (2147483644 : Int) (21 : Int) (T2.mk (0 : Int) (1114098080 : Int)) (2147487637 : Int)))] : List (Str × (T5 Int Int Int (T2 Int Int) Int)))
def fileS : Str := PySem.Challenge.pw_curveseal_k13_long_multiples.main.file
abbrev FnP (K : PySem.W.Frag) (x q : Str) (st : Stmt) (f : Addr) (fd : FuncData) : Prop := FunD K x q (defArgs st) (defBody st) (defScope st) [] [] f fd
structure Facts (P : Program) (w : World) (K : PySem.W.Frag) (mg : Str → Option Value) : Prop where
  d_bits_from_top : ∃ fd, FnP K "bits_from_top" "bits_from_top" s_bits_from_top (He.ga K "bits_from_top") fd
  g_bits_from_top : mg "bits_from_top" = some (.ref (He.ga K "bits_from_top"))
  d_multiply_by_bits : ∃ fd, FnP K "multiply_by_bits" "multiply_by_bits" s_multiply_by_bits (He.ga K "multiply_by_bits") fd
  g_multiply_by_bits : mg "multiply_by_bits" = some (.ref (He.ga K "multiply_by_bits"))
  d_is_whole : ∃ fd, FnP K "is_whole" "is_whole" s_is_whole (He.ga K "is_whole") fd
  g_is_whole : mg "is_whole" = some (.ref (He.ga K "is_whole"))
  d_is_residue : ∃ fd, FnP K "is_residue" "is_residue" s_is_residue (He.ga K "is_residue") fd
  g_is_residue : mg "is_residue" = some (.ref (He.ga K "is_residue"))
  d_is_residue_pair : ∃ fd, FnP K "is_residue_pair" "is_residue_pair" s_is_residue_pair (He.ga K "is_residue_pair") fd
  g_is_residue_pair : mg "is_residue_pair" = some (.ref (He.ga K "is_residue_pair"))
  d_bezout : ∃ fd, FnP K "bezout" "bezout" s_bezout (He.ga K "bezout") fd
  g_bezout : mg "bezout" = some (.ref (He.ga K "bezout"))
  d_inverse : ∃ fd, FnP K "inverse" "inverse" s_inverse (He.ga K "inverse") fd
  g_inverse : mg "inverse" = some (.ref (He.ga K "inverse"))
  d_power : ∃ fd, FnP K "power" "power" s_power (He.ga K "power") fd
  g_power : mg "power" = some (.ref (He.ga K "power"))
  d_square_class : ∃ fd, FnP K "square_class" "square_class" s_square_class (He.ga K "square_class") fd
  g_square_class : mg "square_class" = some (.ref (He.ga K "square_class"))
  d_to_jacobian : ∃ fd, FnP K "to_jacobian" "to_jacobian" s_to_jacobian (He.ga K "to_jacobian") fd
  g_to_jacobian : mg "to_jacobian" = some (.ref (He.ga K "to_jacobian"))
  d_from_jacobian : ∃ fd, FnP K "from_jacobian" "from_jacobian" s_from_jacobian (He.ga K "from_jacobian") fd
  g_from_jacobian : mg "from_jacobian" = some (.ref (He.ga K "from_jacobian"))
  d_double_jacobian : ∃ fd, FnP K "double_jacobian" "double_jacobian" s_double_jacobian (He.ga K "double_jacobian") fd
  g_double_jacobian : mg "double_jacobian" = some (.ref (He.ga K "double_jacobian"))
  d_add_jacobian : ∃ fd, FnP K "add_jacobian" "add_jacobian" s_add_jacobian (He.ga K "add_jacobian") fd
  g_add_jacobian : mg "add_jacobian" = some (.ref (He.ga K "add_jacobian"))
  d_u_scaled : ∃ fd, FnP K "_scaled" "_scaled" s_u_scaled (He.ga K "_scaled") fd
  g_u_scaled : mg "_scaled" = some (.ref (He.ga K "_scaled"))
  d_multiply_jacobian : ∃ fd, FnP K "multiply_jacobian" "multiply_jacobian" s_multiply_jacobian (He.ga K "multiply_jacobian") fd
  g_multiply_jacobian : mg "multiply_jacobian" = some (.ref (He.ga K "multiply_jacobian"))
  d_EdwardsCurve_init : ∃ fd, FnP K "__init__" "EdwardsCurve.__init__" s_EdwardsCurve_init (He.ma K (He.ga K "EdwardsCurve") "__init__") fd
  d_EdwardsCurve_has : ∃ fd, FnP K "has" "EdwardsCurve.has" s_EdwardsCurve_has (He.ma K (He.ga K "EdwardsCurve") "has") fd
  d_EdwardsCurve_negate : ∃ fd, FnP K "negate" "EdwardsCurve.negate" s_EdwardsCurve_negate (He.ma K (He.ga K "EdwardsCurve") "negate") fd
  d_EdwardsCurve_add : ∃ fd, FnP K "add" "EdwardsCurve.add" s_EdwardsCurve_add (He.ma K (He.ga K "EdwardsCurve") "add") fd
  d_to_extended : ∃ fd, FnP K "to_extended" "to_extended" s_to_extended (He.ga K "to_extended") fd
  g_to_extended : mg "to_extended" = some (.ref (He.ga K "to_extended"))
  d_from_extended : ∃ fd, FnP K "from_extended" "from_extended" s_from_extended (He.ga K "from_extended") fd
  g_from_extended : mg "from_extended" = some (.ref (He.ga K "from_extended"))
  d_add_extended : ∃ fd, FnP K "add_extended" "add_extended" s_add_extended (He.ga K "add_extended") fd
  g_add_extended : mg "add_extended" = some (.ref (He.ga K "add_extended"))
  d_multiply_extended : ∃ fd, FnP K "multiply_extended" "multiply_extended" s_multiply_extended (He.ga K "multiply_extended") fd
  g_multiply_extended : mg "multiply_extended" = some (.ref (He.ga K "multiply_extended"))
  d_u_byte_size : ∃ fd, FnP K "_byte_size" "_byte_size" s_u_byte_size (He.ga K "_byte_size") fd
  g_u_byte_size : mg "_byte_size" = some (.ref (He.ga K "_byte_size"))
  d_Group_super__init__ : ∃ fd, FnP K "__init__" "GroupFields.__init__" s_Group_super__init__ (He.ma K (He.ga K "GroupFields") "__init__") fd
  d_Group_init : ∃ fd cc cda, FunS K "__init__" "Group.__init__" (defArgs s_Group_init) (defBody s_Group_init) (defScope s_Group_init) (He.ma K (He.ga K "Group") "__init__") cc cda (He.ga K "Group") fileS fd
  d_Group_has : ∃ fd, FnP K "has" "Group.has" s_Group_has (He.ma K (He.ga K "Group") "has") fd
  d_Group_add : ∃ fd, FnP K "add" "Group.add" s_Group_add (He.ma K (He.ga K "Group") "add") fd
  d_Group_negate : ∃ fd, FnP K "negate" "Group.negate" s_Group_negate (He.ma K (He.ga K "Group") "negate") fd
  d_Group_multiply : ∃ fd, FnP K "multiply" "Group.multiply" s_Group_multiply (He.ma K (He.ga K "Group") "multiply") fd
  d_EdwardsGroup_super__init__ : ∃ fd, FnP K "__init__" "GroupFields.__init__" s_EdwardsGroup_super__init__ (He.ma K (He.ga K "GroupFields") "__init__") fd
  d_EdwardsGroup_init : ∃ fd cc cda, FunS K "__init__" "EdwardsGroup.__init__" (defArgs s_EdwardsGroup_init) (defBody s_EdwardsGroup_init) (defScope s_EdwardsGroup_init) (He.ma K (He.ga K "EdwardsGroup") "__init__") cc cda (He.ga K "EdwardsGroup") fileS fd
  d_EdwardsGroup_has : ∃ fd, FnP K "has" "EdwardsGroup.has" s_EdwardsGroup_has (He.ma K (He.ga K "EdwardsGroup") "has") fd
  d_EdwardsGroup_add : ∃ fd, FnP K "add" "EdwardsGroup.add" s_EdwardsGroup_add (He.ma K (He.ga K "EdwardsGroup") "add") fd
  d_EdwardsGroup_negate : ∃ fd, FnP K "negate" "EdwardsGroup.negate" s_EdwardsGroup_negate (He.ma K (He.ga K "EdwardsGroup") "negate") fd
  d_EdwardsGroup_multiply : ∃ fd, FnP K "multiply" "EdwardsGroup.multiply" s_EdwardsGroup_multiply (He.ma K (He.ga K "EdwardsGroup") "multiply") fd
  d_Curve_init : ∃ fd, FnP K "__init__" "Curve.__init__" s_Curve_init (He.ma K (He.ga K "Curve") "__init__") fd
  d_Curve_has : ∃ fd, FnP K "has" "Curve.has" s_Curve_has (He.ma K (He.ga K "Curve") "has") fd
  d_Curve_u_right_side : ∃ fd, FnP K "_right_side" "Curve._right_side" s_Curve_u_right_side (He.ma K (He.ga K "Curve") "_right_side") fd
  d_Curve_negate : ∃ fd, FnP K "negate" "Curve.negate" s_Curve_negate (He.ma K (He.ga K "Curve") "negate") fd
  d_Curve_add : ∃ fd, FnP K "add" "Curve.add" s_Curve_add (He.ma K (He.ga K "Curve") "add") fd
  d_Curve_u_slope : ∃ fd, FnP K "_slope" "Curve._slope" s_Curve_u_slope (He.ma K (He.ga K "Curve") "_slope") fd
  d_Curve_multiply : ∃ fd, FnP K "multiply" "Curve.multiply" s_Curve_multiply (He.ma K (He.ga K "Curve") "multiply") fd
  d_group_kind : ∃ fd, FnP K "group_kind" "group_kind" s_group_kind (He.ga K "group_kind") fd
  g_group_kind : mg "group_kind" = some (.ref (He.ga K "group_kind"))
  d_group_named : ∃ fd, FnP K "group_named" "group_named" s_group_named (He.ga K "group_named") fd
  g_group_named : mg "group_named" = some (.ref (He.ga K "group_named"))
  d_u_law_cell : ∃ fd, FnP K "_law_cell" "_law_cell" s_u_law_cell (He.ga K "_law_cell") fd
  g_u_law_cell : mg "_law_cell" = some (.ref (He.ga K "_law_cell"))
  d_u_law_number : ∃ fd, FnP K "_law_number" "_law_number" s_u_law_number (He.ga K "_law_number") fd
  g_u_law_number : mg "_law_number" = some (.ref (He.ga K "_law_number"))
  d_law : ∃ fd, FnP K "law" "law" s_law (He.ga K "law") fd
  g_law : mg "law" = some (.ref (He.ga K "law"))
  g_EdwardsCurve : mg "EdwardsCurve" = some (.ref (He.ga K "EdwardsCurve"))
  cl_EdwardsCurve : L2.Cls K (He.ga K "EdwardsCurve")
  g_EdwardsGroup : mg "EdwardsGroup" = some (.ref (He.ga K "EdwardsGroup"))
  cl_EdwardsGroup : L2.Cls K (He.ga K "EdwardsGroup")
  g_Curve : mg "Curve" = some (.ref (He.ga K "Curve"))
  cl_Curve : L2.Cls K (He.ga K "Curve")
  g_Group : mg "Group" = some (.ref (He.ga K "Group"))
  cl_Group : L2.Cls K (He.ga K "Group")
  nf_Curve_a : NoAttr K (He.ga K "Curve") "a"
  nf_Curve_b : NoAttr K (He.ga K "Curve") "b"
  nf_Curve_prime : NoAttr K (He.ga K "Curve") "prime"
  nf_EdwardsCurve_a : NoAttr K (He.ga K "EdwardsCurve") "a"
  nf_EdwardsCurve_d : NoAttr K (He.ga K "EdwardsCurve") "d"
  nf_EdwardsCurve_prime : NoAttr K (He.ga K "EdwardsCurve") "prime"
  nf_EdwardsGroup_base : NoAttr K (He.ga K "EdwardsGroup") "base"
  nf_EdwardsGroup_cofactor : NoAttr K (He.ga K "EdwardsGroup") "cofactor"
  nf_EdwardsGroup_curve : NoAttr K (He.ga K "EdwardsGroup") "curve"
  nf_EdwardsGroup_kind : NoAttr K (He.ga K "EdwardsGroup") "kind"
  nf_EdwardsGroup_name : NoAttr K (He.ga K "EdwardsGroup") "name"
  nf_EdwardsGroup_order : NoAttr K (He.ga K "EdwardsGroup") "order"
  nf_EdwardsGroup_order_size : NoAttr K (He.ga K "EdwardsGroup") "order_size"
  nf_EdwardsGroup_prime : NoAttr K (He.ga K "EdwardsGroup") "prime"
  nf_EdwardsGroup_size : NoAttr K (He.ga K "EdwardsGroup") "size"
  nf_Group_base : NoAttr K (He.ga K "Group") "base"
  nf_Group_cofactor : NoAttr K (He.ga K "Group") "cofactor"
  nf_Group_curve : NoAttr K (He.ga K "Group") "curve"
  nf_Group_kind : NoAttr K (He.ga K "Group") "kind"
  nf_Group_name : NoAttr K (He.ga K "Group") "name"
  nf_Group_order : NoAttr K (He.ga K "Group") "order"
  nf_Group_order_size : NoAttr K (He.ga K "Group") "order_size"
  nf_Group_prime : NoAttr K (He.ga K "Group") "prime"
  nf_Group_size : NoAttr K (He.ga K "Group") "size"
  mt_Curve_u_right_side : Meth K (He.ga K "Curve") "_right_side" (He.ma K (He.ga K "Curve") "_right_side")
  mt_Curve_u_slope : Meth K (He.ga K "Curve") "_slope" (He.ma K (He.ga K "Curve") "_slope")
  mt_Curve_add : Meth K (He.ga K "Curve") "add" (He.ma K (He.ga K "Curve") "add")
  mt_Curve_has : Meth K (He.ga K "Curve") "has" (He.ma K (He.ga K "Curve") "has")
  mt_Curve_multiply : Meth K (He.ga K "Curve") "multiply" (He.ma K (He.ga K "Curve") "multiply")
  mt_Curve_negate : Meth K (He.ga K "Curve") "negate" (He.ma K (He.ga K "Curve") "negate")
  mt_EdwardsCurve_add : Meth K (He.ga K "EdwardsCurve") "add" (He.ma K (He.ga K "EdwardsCurve") "add")
  mt_EdwardsCurve_has : Meth K (He.ga K "EdwardsCurve") "has" (He.ma K (He.ga K "EdwardsCurve") "has")
  mt_EdwardsCurve_negate : Meth K (He.ga K "EdwardsCurve") "negate" (He.ma K (He.ga K "EdwardsCurve") "negate")
  mt_Group_has : Meth K (He.ga K "Group") "has" (He.ma K (He.ga K "Group") "has")
  mt_Group_multiply : Meth K (He.ga K "Group") "multiply" (He.ma K (He.ga K "Group") "multiply")
  mt_Group_negate : Meth K (He.ga K "Group") "negate" (He.ma K (He.ga K "Group") "negate")
  mk_Curve : Mk K (He.ga K "Curve") (He.ma K (He.ga K "Curve") "__init__")
  mk_EdwardsCurve : Mk K (He.ga K "EdwardsCurve") (He.ma K (He.ga K "EdwardsCurve") "__init__")
  mk_EdwardsGroup : Mk K (He.ga K "EdwardsGroup") (He.ma K (He.ga K "EdwardsGroup") "__init__")
  mk_Group : Mk K (He.ga K "Group") (He.ma K (He.ga K "Group") "__init__")
  g_CurveError : mg "CurveError" = some (.ref (He.ga K "CurveError"))
  g_OutOfRange : mg "OutOfRange" = some (.ref (He.ga K "OutOfRange"))
  g_Malformed : mg "Malformed" = some (.ref (He.ga K "Malformed"))
  g_NotAPoint : mg "NotAPoint" = some (.ref (He.ga K "NotAPoint"))
  g_NoInverse : mg "NoInverse" = some (.ref (He.ga K "NoInverse"))
  g_Refused : mg "Refused" = some (.ref (He.ga K "Refused"))
  x_Malformed : PySem.W.excIn K (He.ga K "Malformed") He.veBase "ValueError.__new__" = true
  k_Malformed : PySem.W.keepIn K (.ref (He.ga K "Malformed")) = true
  b_Malformed : PySem.W.subIn K (.ref (He.ga K "Malformed")) (.type "BaseException") = some true
  t_Malformed : PySem.W.typeIn K (.ref (He.ga K "Malformed")) = some (.type "type")
  x_NoInverse : PySem.W.excIn K (He.ga K "NoInverse") He.veBase "ValueError.__new__" = true
  k_NoInverse : PySem.W.keepIn K (.ref (He.ga K "NoInverse")) = true
  b_NoInverse : PySem.W.subIn K (.ref (He.ga K "NoInverse")) (.type "BaseException") = some true
  t_NoInverse : PySem.W.typeIn K (.ref (He.ga K "NoInverse")) = some (.type "type")
  x_NotAPoint : PySem.W.excIn K (He.ga K "NotAPoint") He.veBase "ValueError.__new__" = true
  k_NotAPoint : PySem.W.keepIn K (.ref (He.ga K "NotAPoint")) = true
  b_NotAPoint : PySem.W.subIn K (.ref (He.ga K "NotAPoint")) (.type "BaseException") = some true
  t_NotAPoint : PySem.W.typeIn K (.ref (He.ga K "NotAPoint")) = some (.type "type")
  x_OutOfRange : PySem.W.excIn K (He.ga K "OutOfRange") He.veBase "ValueError.__new__" = true
  k_OutOfRange : PySem.W.keepIn K (.ref (He.ga K "OutOfRange")) = true
  b_OutOfRange : PySem.W.subIn K (.ref (He.ga K "OutOfRange")) (.type "BaseException") = some true
  t_OutOfRange : PySem.W.typeIn K (.ref (He.ga K "OutOfRange")) = some (.type "type")
  x_Refused : PySem.W.excIn K (He.ga K "Refused") He.veBase "ValueError.__new__" = true
  k_Refused : PySem.W.keepIn K (.ref (He.ga K "Refused")) = true
  b_Refused : PySem.W.subIn K (.ref (He.ga K "Refused")) (.type "BaseException") = some true
  t_Refused : PySem.W.typeIn K (.ref (He.ga K "Refused")) = some (.type "type")
  n_abs : mg "abs" = none
  n_all : mg "all" = none
  n_bool : mg "bool" = none
  n_int : mg "int" = none
  n_isinstance : mg "isinstance" = none
  n_len : mg "len" = none
  n_range : mg "range" = none
  n_super : mg "super" = none
  n_tuple : mg "tuple" = none
  c_INFINITY : ConF K mg "INFINITY" (toD k_INFINITY)
  c_NEUTRAL_FOUR : ConF K mg "NEUTRAL_FOUR" (toD k_NEUTRAL_FOUR)
  c_EDWARDS_NUMBERS : TabF K w mg "EDWARDS_NUMBERS" (tabD k_EDWARDS_NUMBERS)
  c_WEIERSTRASS_NUMBERS : TabF K w mg "WEIERSTRASS_NUMBERS" (tabD k_WEIERSTRASS_NUMBERS)
  u_EdwardsGroup : SupF K (He.ga K "EdwardsGroup") (He.ga K "EdwardsGroup") (He.ma K (He.ga K "GroupFields") "__init__")
  u_Group : SupF K (He.ga K "Group") (He.ga K "Group") (He.ma K (He.ga K "GroupFields") "__init__")
  fil : ((P.main.file : Str) == fileS) = true
  sup : (P.main.scope.names.lookup ("super" : Str)).isSome = false
  cls : Cls K errs subE
noncomputable def m_bits_from_top (number_ : Int) : Res (List Int) :=
  (Res.need (okRange (((Builtin.Int.intBits number_ : Nat) : Int) - (1 : Int)) ∧ okRange (-(1 : Int))) (Res.ok (pyDown (((Builtin.Int.intBits number_ : Nat) : Int) - (1 : Int)) (-(1 : Int))))).bind fun (xs3 : List Int) => Res.need (xs3.length ≤ 16777216) (compL (fun (x1 : Int) => Res.ok true) (fun (x1 : Int) => (Res.need (0 ≤ x1) (Res.ok (number_ / 2 ^ x1.toNat))).bind fun (t2 : Int) => Res.ok (Builtin.bitAnd t2 (1 : Int))) xs3)
theorem ok_bits_from_top {P : Program} {w : World} {K : PySem.W.Frag} {mg : Str → Option Value} {base : Heap} (T : Facts P w K mg) {fd : FuncData} (F : FnP K "bits_from_top" "bits_from_top" s_bits_from_top (He.ga K "bits_from_top") fd) :
    FnOk P w K mg base (L2.CX P w) 1 (He.ga K "bits_from_top") fd ["number"] (spM K (fun (p : Int × Unit) => m_bits_from_top p.1)) := by
  refine fn_ok F sc_bits_from_top (fun y => rfl) (fun cdv A outer s H E hr => ?_)
  refine ⟨_, (pss_one (ps_ret (pe_lc (own := [("at", 1)]) rfl sc_bits_from_top.nd (pi_range3 rfl T.n_range (pa_cons (pe_op op_sub (pe_bits (pv 0)) pe_int) (pa_cons (pe_un un_neg pe_int) (pa_cons (pe_un un_neg pe_int) pa_nil)))) (blkOk_by (own := [("at", 1)]) (N := ["number", "at"]) (sc := defScope s_bits_from_top) (by decide +kernel)) (fun _ _ _ _ _ => (pg_name (i := 1) sc_bits_from_top.nd rfl (Or.inl rfl))) (fun _ _ _ _ _ => pts_nil) (fun _ _ _ _ _ => (pe_op op_and (pe_op op_shr (pv 0) (pv 1)) pe_int))))), ?_⟩
  rintro ⟨number_, ⟨⟩⟩ F0 H0 Q KP L
  show Blk K F0 H0 KP _ [some (.im (toD number_)), none] (m_bits_from_top number_)
  unfold m_bits_from_top
  have hr_ := ((ev_ofN (ev_comp (tst := fun (x1 : Int) => Res.ok true) (el := fun (x1 : Int) => (Res.need (0 ≤ x1) (Res.ok (number_ / 2 ^ x1.toNat))).bind fun (t2 : Int) => Res.ok (Builtin.bitAnd t2 (1 : Int))) (ws := [1]) (ei_down (ev_op (opx_I0 (g := fun i j => i - j)) mild_ok (ev_bits (ev_var (i := 0) (x := number_) rfl)) (ev_int (i := 1))) (ev_un (g := fun i => -i) (ev_int (i := 1))) (ev_un (g := fun i => -i) (ev_int (i := 1)))) (fun _ => gx_name) (fun x1 => et_yes) (fun x1 => ((ev_op (opx_I0 (g := Builtin.bitAnd)) mild_ok (ev_op (opx_I (C := (fun _ j => 0 ≤ j)) (g := fun i j => i / 2 ^ j.toNat)) mild_need (ev_var (i := 0) (x := number_) rfl) (ev_var (i := 1) (x := x1) rfl)) (ev_int (i := 1))) : EvX K WT [some (.im (toD number_)), some (.im (toD x1))] _ _)))) : EvX K (W0 E) [some (.im (toD number_)), none] _ _); replace hr_ : EvX K (W0 E) [some (.im (toD number_)), none] _ ((Res.need (okRange (((Builtin.Int.intBits number_ : Nat) : Int) - (1 : Int)) ∧ okRange (-(1 : Int))) (Res.ok (pyDown (((Builtin.Int.intBits number_ : Nat) : Int) - (1 : Int)) (-(1 : Int))))).bind fun (xs3 : List Int) => Res.need (xs3.length ≤ 16777216) (compL (fun (x1 : Int) => Res.ok true) (fun (x1 : Int) => (Res.need (0 ≤ x1) (Res.ok (number_ / 2 ^ x1.toNat))).bind fun (t2 : Int) => Res.ok (Builtin.bitAnd t2 (1 : Int))) xs3)) := hr_
  exact blk_ret L trivial hr_
noncomputable def m_bezout_w1 (k1 : (T3 Int Int Int) × (T3 Int Int Int) → Res (T3 Int Int Int)) : Nat → (T3 Int Int Int) × (T3 Int Int Int) → Res (T3 Int Int Int)
  | 0, _ => Res.stuck
  | n1 + 1, (first_, second_) => ((Res.ok (!decide (second_.a = (0 : Int))))).bind fun b => cond b   ((Res.need (CDivW first_.a second_.a) (Res.ok (first_.a / second_.a))).bind fun (times_ : Int) =>   ((((Res.need (CMulX times_ second_.a) (Res.ok (times_ * second_.a))).bind fun (t4 : Int) => Res.ok (first_.a - t4)).bind fun a11 => (((Res.need (CMulX times_ second_.b) (Res.ok (times_ * second_.b))).bind fun (t5 : Int) => Res.ok (first_.b - t5)).bind fun a9 => (((Res.need (CMulX times_ second_.c) (Res.ok (times_ * second_.c))).bind fun (t6 : Int) => Res.ok (first_.c - t6)).bind fun a7 => Res.ok (a7, ())).bind fun a10 => Res.ok (a9, a10)).bind fun a12 => Res.ok (a11, a12)).bind fun p13 => Res.ok (T3.mk p13.1 p13.2.1 p13.2.2.1)).bind fun (rest_ : (T3 Int Int Int)) =>   ((Res.ok second_)).bind fun (p14 : (T3 Int Int Int)) => ((Res.ok rest_)).bind fun (p15 : (T3 Int Int Int)) =>   (fun (first_ : (T3 Int Int Int)) (second_ : (T3 Int Int Int)) => m_bezout_w1 k1 n1 (first_, second_)) p14 p15)   (k1 (first_, second_))
noncomputable def m_bezout_k3 : (T3 Int Int Int) × (T3 Int Int Int) → Res (T3 Int Int Int) := fun (first_, second_) =>   ((Res.ok (decide (first_.a < (0 : Int))))).bind fun b => cond b   ((Res.ok (T3.mk (-first_.a) (-first_.b) (-first_.c))))   ((Res.ok first_))
noncomputable def m_bezout (a_ : Int) (b_ : Int) : Res (T3 Int Int Int) :=
  ((Res.ok (T3.mk a_ (1 : Int) (0 : Int)))).bind fun (p16 : (T3 Int Int Int)) => ((Res.ok (T3.mk b_ (0 : Int) (1 : Int)))).bind fun (p17 : (T3 Int Int Int)) =>   (fun (first_ : (T3 Int Int Int)) (second_ : (T3 Int Int Int)) => m_bezout_w1 (m_bezout_k3) (b_.natAbs + 1) (first_, second_)) p16 p17
theorem ok_bezout {P : Program} {w : World} {K : PySem.W.Frag} {mg : Str → Option Value} {base : Heap} (T : Facts P w K mg) {fd : FuncData} (F : FnP K "bezout" "bezout" s_bezout (He.ga K "bezout") fd) :
    FnOk P w K mg base (L2.CX P w) 1 (He.ga K "bezout") fd ["a", "b"] (spM K (fun (p : Int × Int × Unit) => m_bezout p.1 p.2.1)) := by
  refine fn_ok F sc_bezout (fun y => rfl) (fun cdv A outer s H E hr => ?_)
  refine ⟨_, (pss_cons (ps_par (i := 2) (j := 3) (by rfl) sc_bezout.nd rfl rfl (by decide) rfl rfl (pa_cons (pe_tup (pa_cons (pv 0) (pa_cons pe_int (pa_cons pe_int pa_nil)))) (pa_cons (pe_tup (pa_cons (pv 1) (pa_cons pe_int (pa_cons pe_int pa_nil)))) pa_nil)) (by rfl)) (pss_cons (ps_while (passes_of rfl) (pt_cmpR op_ne (pe_ix (cr_ixT rfl) (pv 3) pe_int (fun _ _ => rfl)) pe_int (nomark _)) (pss_cons (ps_set (i := 4) sc_bezout.nd rfl (Or.inl rfl) (pe_op op_fdivW (pe_ix (cr_ixT rfl) (pv 2) pe_int (fun _ _ => rfl)) (pe_ix (cr_ixT rfl) (pv 3) pe_int (fun _ _ => rfl)))) (pss_cons (ps_set (i := 5) sc_bezout.nd rfl (Or.inl rfl) (pe_tup (pa_cons (pe_op op_sub (pe_ix (cr_ixT rfl) (pv 2) pe_int (fun _ _ => rfl)) (pe_op op_mulX (pv 4) (pe_ix (cr_ixT rfl) (pv 3) pe_int (fun _ _ => rfl)))) (pa_cons (pe_op op_sub (pe_ix (cr_ixT rfl) (pv 2) pe_int (fun _ _ => rfl)) (pe_op op_mulX (pv 4) (pe_ix (cr_ixT rfl) (pv 3) pe_int (fun _ _ => rfl)))) (pa_cons (pe_op op_sub (pe_ix (cr_ixT rfl) (pv 2) pe_int (fun _ _ => rfl)) (pe_op op_mulX (pv 4) (pe_ix (cr_ixT rfl) (pv 3) pe_int (fun _ _ => rfl)))) pa_nil))))) (pss_one (ps_par (i := 2) (j := 3) (by rfl) sc_bezout.nd rfl rfl (by decide) rfl rfl (pa_cons (pv 3) (pa_cons (pv 5) pa_nil)) (by rfl)))))) (pss_cons (ps_if (pt_cmpR op_lt (pe_ix (cr_ixT rfl) (pv 2) pe_int (fun _ _ => rfl)) pe_int (nomark _)) (pss_one (ps_ret (pe_tup (pa_cons (pe_un un_neg (pe_ix (cr_ixT rfl) (pv 2) pe_int (fun _ _ => rfl))) (pa_cons (pe_un un_neg (pe_ix (cr_ixT rfl) (pv 2) pe_int (fun _ _ => rfl))) (pa_cons (pe_un un_neg (pe_ix (cr_ixT rfl) (pv 2) pe_int (fun _ _ => rfl))) pa_nil)))))) pss_nil) (pss_one (ps_ret (pv 2)))))), ?_⟩
  rintro ⟨a_, b_, ⟨⟩⟩ F0 H0 Q KP L
  show Blk K F0 H0 KP _ [some (.im (toD a_)), some (.im (toD b_)), none, none, none, none] (m_bezout a_ b_)
  unfold m_bezout
  have ha_ := ((ev_tup (f := (fun y => T3.mk y.1 y.2.1 y.2.2.1)) (ea_cons (ev_var (i := 0) (x := a_) rfl) (ea_cons (ev_int (i := 1)) (ea_cons (ev_int (i := 0)) ea_nil))) (fun _ => rfl) (fun _ => by show 3 ≤ 100000; decide)) : EvX K (W0 E) [some (.im (toD a_)), some (.im (toD b_)), none, none, none, none] _ _); replace ha_ : EvX K (W0 E) [some (.im (toD a_)), some (.im (toD b_)), none, none, none, none] _ (Res.ok (T3.mk a_ (1 : Int) (0 : Int)) : Res (T3 Int Int Int)) := ha_
  have hb_ := ((ev_tup (f := (fun y => T3.mk y.1 y.2.1 y.2.2.1)) (ea_cons (ev_var (i := 1) (x := b_) rfl) (ea_cons (ev_int (i := 0)) (ea_cons (ev_int (i := 1)) ea_nil))) (fun _ => rfl) (fun _ => by show 3 ≤ 100000; decide)) : EvX K (W0 E) [some (.im (toD a_)), some (.im (toD b_)), none, none, none, none] _ _); replace hb_ : EvX K (W0 E) [some (.im (toD a_)), some (.im (toD b_)), none, none, none, none] _ (Res.ok (T3.mk b_ (0 : Int) (1 : Int)) : Res (T3 Int Int Int)) := hb_
  refine blk_seq (blk_par (i := 2) (j := 3) L trivial ha_ hb_ fun first_ second_ => ?_)
  show Blk _ _ _ _ _ [some (.im (toD a_)), some (.im (toD b_)), some (.im (toD first_)), some (.im (toD second_)), none, none] _
  try refine Blk.nx ?_
  refine blk_seq (blk_while (S := (T3 Int Int Int) × (T3 Int Int Int)) (m_bezout_w1 (m_bezout_k3)) (fun (s : (T3 Int Int Int) × (T3 Int Int Int)) => match s with | (first_, second_) => (Res.ok (!decide (second_.a = (0 : Int))))) (fun n s => match s with | (first_, second_) => (Res.need (CDivW first_.a second_.a) (Res.ok (first_.a / second_.a))).bind fun (times_ : Int) =>   ((((Res.need (CMulX times_ second_.a) (Res.ok (times_ * second_.a))).bind fun (t4 : Int) => Res.ok (first_.a - t4)).bind fun a11 => (((Res.need (CMulX times_ second_.b) (Res.ok (times_ * second_.b))).bind fun (t5 : Int) => Res.ok (first_.b - t5)).bind fun a9 => (((Res.need (CMulX times_ second_.c) (Res.ok (times_ * second_.c))).bind fun (t6 : Int) => Res.ok (first_.c - t6)).bind fun a7 => Res.ok (a7, ())).bind fun a10 => Res.ok (a9, a10)).bind fun a12 => Res.ok (a11, a12)).bind fun p13 => Res.ok (T3.mk p13.1 p13.2.1 p13.2.2.1)).bind fun (rest_ : (T3 Int Int Int)) =>   ((Res.ok second_)).bind fun (p14 : (T3 Int Int Int)) => ((Res.ok rest_)).bind fun (p15 : (T3 Int Int Int)) =>   (fun (first_ : (T3 Int Int Int)) (second_ : (T3 Int Int Int)) => m_bezout_w1 (m_bezout_k3) n (first_, second_)) p14 p15) (m_bezout_k3) (fun (first_, second_) => [some (.im (toD a_)), some (.im (toD b_)), some (.im (toD first_)), some (.im (toD second_)), none, none]) (first_, second_) (b_.natAbs + 1) L ?_ (.same (.same (.same (.same (.same (.same .nil)))))) ?_ (fun ⟨_, _⟩ => rfl) (fun _ ⟨_, _⟩ => rfl) ?_ ?_)
  · rintro ⟨first_, second_⟩
    exact trivial
  · rintro ⟨first_, second_⟩
    exact ((et_test (ev_op opx_neI mild_ok (ev_ixTC (i := 0) (f := fun x => x.a) (ev_var (i := 3) (x := second_) rfl) (fun x => ⟨_, rfl, rfl⟩)) (ev_int (i := 0)))) : EvT K (W0 E) [some (.im (toD a_)), some (.im (toD b_)), some (.im (toD first_)), some (.im (toD second_)), none, none] _ _)
  · intro n1 s_ N_ hN1
    obtain ⟨first_, second_⟩ := s_
    show Blk _ _ _ _ _ [some (.im (toD a_)), some (.im (toD b_)), some (.im (toD first_)), some (.im (toD second_)), none, none] _
    have hs_ := ((ev_op (opx_I (C := CDivW) (g := fun i j => i / j)) mild_need (ev_ixTC (i := 0) (f := fun x => x.a) (ev_var (i := 2) (x := first_) rfl) (fun x => ⟨_, rfl, rfl⟩)) (ev_ixTC (i := 0) (f := fun x => x.a) (ev_var (i := 3) (x := second_) rfl) (fun x => ⟨_, rfl, rfl⟩))) : EvX K (W0 E) [some (.im (toD a_)), some (.im (toD b_)), some (.im (toD first_)), some (.im (toD second_)), none, none] _ _); replace hs_ : EvX K (W0 E) [some (.im (toD a_)), some (.im (toD b_)), some (.im (toD first_)), some (.im (toD second_)), none, none] _ (Res.need (CDivW first_.a second_.a) (Res.ok (first_.a / second_.a))) := hs_
    refine blk_seq (blk_set (i := 4) L trivial hs_ fun times_ => ?_)
    show Blk _ _ _ _ _ [some (.im (toD a_)), some (.im (toD b_)), some (.im (toD first_)), some (.im (toD second_)), some (.im (toD times_)), none] _
    try refine Blk.nx ?_
    have hs_ := ((ev_tup (f := (fun y => T3.mk y.1 y.2.1 y.2.2.1)) (ea_cons (ev_op (opx_I0 (g := fun i j => i - j)) mild_ok (ev_ixTC (i := 0) (f := fun x => x.a) (ev_var (i := 2) (x := first_) rfl) (fun x => ⟨_, rfl, rfl⟩)) (ev_op (opx_I (C := CMulX) (g := fun i j => i * j)) mild_need (ev_var (i := 4) (x := times_) rfl) (ev_ixTC (i := 0) (f := fun x => x.a) (ev_var (i := 3) (x := second_) rfl) (fun x => ⟨_, rfl, rfl⟩)))) (ea_cons (ev_op (opx_I0 (g := fun i j => i - j)) mild_ok (ev_ixTC (i := 1) (f := fun x => x.b) (ev_var (i := 2) (x := first_) rfl) (fun x => ⟨_, rfl, rfl⟩)) (ev_op (opx_I (C := CMulX) (g := fun i j => i * j)) mild_need (ev_var (i := 4) (x := times_) rfl) (ev_ixTC (i := 1) (f := fun x => x.b) (ev_var (i := 3) (x := second_) rfl) (fun x => ⟨_, rfl, rfl⟩)))) (ea_cons (ev_op (opx_I0 (g := fun i j => i - j)) mild_ok (ev_ixTC (i := 2) (f := fun x => x.c) (ev_var (i := 2) (x := first_) rfl) (fun x => ⟨_, rfl, rfl⟩)) (ev_op (opx_I (C := CMulX) (g := fun i j => i * j)) mild_need (ev_var (i := 4) (x := times_) rfl) (ev_ixTC (i := 2) (f := fun x => x.c) (ev_var (i := 3) (x := second_) rfl) (fun x => ⟨_, rfl, rfl⟩)))) ea_nil))) (fun _ => rfl) (fun _ => by show 3 ≤ 100000; decide)) : EvX K (W0 E) [some (.im (toD a_)), some (.im (toD b_)), some (.im (toD first_)), some (.im (toD second_)), some (.im (toD times_)), none] _ _); replace hs_ : EvX K (W0 E) [some (.im (toD a_)), some (.im (toD b_)), some (.im (toD first_)), some (.im (toD second_)), some (.im (toD times_)), none] _ ((((Res.need (CMulX times_ second_.a) (Res.ok (times_ * second_.a))).bind fun (t4 : Int) => Res.ok (first_.a - t4)).bind fun a11 => (((Res.need (CMulX times_ second_.b) (Res.ok (times_ * second_.b))).bind fun (t5 : Int) => Res.ok (first_.b - t5)).bind fun a9 => (((Res.need (CMulX times_ second_.c) (Res.ok (times_ * second_.c))).bind fun (t6 : Int) => Res.ok (first_.c - t6)).bind fun a7 => Res.ok (a7, ())).bind fun a10 => Res.ok (a9, a10)).bind fun a12 => Res.ok (a11, a12)).bind fun p13 => Res.ok (T3.mk p13.1 p13.2.1 p13.2.2.1)) := hs_
    refine blk_seq (blk_set (i := 5) L trivial hs_ fun rest_ => ?_)
    show Blk _ _ _ _ _ [some (.im (toD a_)), some (.im (toD b_)), some (.im (toD first_)), some (.im (toD second_)), some (.im (toD times_)), some (.im (toD rest_))] _
    try refine Blk.nx ?_
    have ha_ := ((ev_var (i := 3) (x := second_) rfl) : EvX K (W0 E) [some (.im (toD a_)), some (.im (toD b_)), some (.im (toD first_)), some (.im (toD second_)), some (.im (toD times_)), some (.im (toD rest_))] _ _); replace ha_ : EvX K (W0 E) [some (.im (toD a_)), some (.im (toD b_)), some (.im (toD first_)), some (.im (toD second_)), some (.im (toD times_)), some (.im (toD rest_))] _ (Res.ok second_ : Res (T3 Int Int Int)) := ha_
    have hb_ := ((ev_var (i := 5) (x := rest_) rfl) : EvX K (W0 E) [some (.im (toD a_)), some (.im (toD b_)), some (.im (toD first_)), some (.im (toD second_)), some (.im (toD times_)), some (.im (toD rest_))] _ _); replace hb_ : EvX K (W0 E) [some (.im (toD a_)), some (.im (toD b_)), some (.im (toD first_)), some (.im (toD second_)), some (.im (toD times_)), some (.im (toD rest_))] _ (Res.ok rest_ : Res (T3 Int Int Int)) := hb_
    refine blk_par (i := 2) (j := 3) L trivial ha_ hb_ fun first_ second_ => ?_
    show Blk _ _ _ _ _ [some (.im (toD a_)), some (.im (toD b_)), some (.im (toD first_)), some (.im (toD second_)), some (.im (toD times_)), some (.im (toD rest_))] _
    try refine Blk.nx ?_
    exact (hN1 (first_, second_)).weak (.same (.same (.same (.same (.drop (.drop .nil))))))
  · rintro ⟨first_, second_⟩
    show Blk _ _ _ _ _ [some (.im (toD a_)), some (.im (toD b_)), some (.im (toD first_)), some (.im (toD second_)), none, none] ((m_bezout_k3) (first_, second_))
    unfold m_bezout_k3
    try refine Blk.nx ?_
    have ht_ := ((et_test (ev_op (opx_B0 (g := fun i j => decide (i < j))) mild_ok (ev_ixTC (i := 0) (f := fun x => x.a) (ev_var (i := 2) (x := first_) rfl) (fun x => ⟨_, rfl, rfl⟩)) (ev_int (i := 0)))) : EvT K (W0 E) [some (.im (toD a_)), some (.im (toD b_)), some (.im (toD first_)), some (.im (toD second_)), none, none] _ _); replace ht_ : EvT K (W0 E) [some (.im (toD a_)), some (.im (toD b_)), some (.im (toD first_)), some (.im (toD second_)), none, none] _ ((Res.ok (decide (first_.a < (0 : Int))))) := ht_
    refine blk_seq (blk_if2 L trivial ht_ ?_ ?_)
    · have hr_ := ((ev_tup (f := (fun y => T3.mk y.1 y.2.1 y.2.2.1)) (ea_cons (ev_un (g := fun i => -i) (ev_ixTC (i := 0) (f := fun x => x.a) (ev_var (i := 2) (x := first_) rfl) (fun x => ⟨_, rfl, rfl⟩))) (ea_cons (ev_un (g := fun i => -i) (ev_ixTC (i := 1) (f := fun x => x.b) (ev_var (i := 2) (x := first_) rfl) (fun x => ⟨_, rfl, rfl⟩))) (ea_cons (ev_un (g := fun i => -i) (ev_ixTC (i := 2) (f := fun x => x.c) (ev_var (i := 2) (x := first_) rfl) (fun x => ⟨_, rfl, rfl⟩))) ea_nil))) (fun _ => rfl) (fun _ => by show 3 ≤ 100000; decide)) : EvX K (W0 E) [some (.im (toD a_)), some (.im (toD b_)), some (.im (toD first_)), some (.im (toD second_)), none, none] _ _); replace hr_ : EvX K (W0 E) [some (.im (toD a_)), some (.im (toD b_)), some (.im (toD first_)), some (.im (toD second_)), none, none] _ (Res.ok (T3.mk (-first_.a) (-first_.b) (-first_.c)) : Res (T3 Int Int Int)) := hr_
      exact blk_ret L trivial hr_
    · refine blk_nil ?_
      try refine Blk.nx ?_
      have hr_ := ((ev_var (i := 2) (x := first_) rfl) : EvX K (W0 E) [some (.im (toD a_)), some (.im (toD b_)), some (.im (toD first_)), some (.im (toD second_)), none, none] _ _); replace hr_ : EvX K (W0 E) [some (.im (toD a_)), some (.im (toD b_)), some (.im (toD first_)), some (.im (toD second_)), none, none] _ (Res.ok first_ : Res (T3 Int Int Int)) := hr_
      exact blk_ret L trivial hr_
noncomputable def m_inverse (a_ : Int) (modulus_ : Int) : Res Int :=
  (((Res.need (0 < modulus_) (Res.ok (a_ % modulus_))).bind fun a18 => Res.ok (a18, (modulus_, ()))).bind fun p20 => m_bezout p20.1 p20.2.1).bind fun (u21 : (T3 Int Int Int)) =>   (fun (divisor_ : Int) (factor_ : Int) (u__ : Int) => ((Res.ok (!decide (divisor_ = (1 : Int))))).bind fun b => cond b   (Res.exc "NoInverse")   (Res.need (0 < modulus_) (Res.ok (factor_ % modulus_)))) u21.a u21.b u21.c
theorem ok_inverse {P : Program} {w : World} {K : PySem.W.Frag} {mg : Str → Option Value} {base : Heap} (T : Facts P w K mg) {fd : FuncData} (F : FnP K "inverse" "inverse" s_inverse (He.ga K "inverse") fd) :
    FnOk P w K mg base (L2.CX P w) 2 (He.ga K "inverse") fd ["a", "modulus"] (spM K (fun (p : Int × Int × Unit) => m_inverse p.1 p.2.1)) := by
  obtain ⟨fd_bezout, F_bezout⟩ := T.d_bezout
  have G_bezout := ok_bezout (P := P) (w := w) (base := base) T F_bezout
  have b_bezout : Binds K fd_bezout ["a", "b"] [] := F_bezout.bindsN fun _ _ _ _ _ _ us hl => match us, hl with | [_, _], _ => rfl
  refine fn_ok F sc_inverse (fun y => rfl) (fun cdv A outer s H E hr => ?_)
  refine ⟨_, (pss_cons (ps_asg (pe_callS G_bezout (hr.mono (by decide)) rfl T.g_bezout F_bezout.kp b_bezout (fun σ => passAt (takes_of rfl rfl rfl rfl) σ) (pa_cons (pe_op op_mod (pv 0) (pv 1)) (pa_cons (pv 1) pa_nil))) (pg_tup rfl (pgs_cons (pg_name (i := 2) sc_inverse.nd rfl (Or.inl rfl)) (pgs_cons (pg_name (i := 3) sc_inverse.nd rfl (Or.inl rfl)) (pgs_cons (pg_name (i := 4) sc_inverse.nd rfl (Or.inl rfl)) pgs_nil))))) (pss_cons (ps_if (pt_cmpR op_ne (pv 2) pe_int (nomark _)) (pss_one (ps_raise rfl (takes_of rfl rfl rfl rfl) (pmk_own PySem.F.excBase_ValueError T.x_NoInverse T.g_NoInverse T.k_NoInverse (raises_own T.b_NoInverse T.t_NoInverse) rfl))) pss_nil) (pss_one (ps_ret (pe_op op_mod (pv 3) (pv 1)))))), ?_⟩
  rintro ⟨a_, modulus_, ⟨⟩⟩ F0 H0 Q KP L
  show Blk K F0 H0 KP _ [some (.im (toD a_)), some (.im (toD modulus_)), none, none, none] (m_inverse a_ modulus_)
  unfold m_inverse
  have hs_ := ((ev_call (f := (fun (p : Int × Int × Unit) => m_bezout p.1 p.2.1)) (ea_cons (ev_op (opx_I (C := (fun _ j => 0 < j)) (g := fun i j => i % j)) mild_need (ev_var (i := 0) (x := a_) rfl) (ev_var (i := 1) (x := modulus_) rfl)) (ea_cons (ev_var (i := 1) (x := modulus_) rfl) ea_nil))) : EvX K (W0 E) [some (.im (toD a_)), some (.im (toD modulus_)), none, none, none] _ _); replace hs_ : EvX K (W0 E) [some (.im (toD a_)), some (.im (toD modulus_)), none, none, none] _ (((Res.need (0 < modulus_) (Res.ok (a_ % modulus_))).bind fun a18 => Res.ok (a18, (modulus_, ()))).bind fun p20 => m_bezout p20.1 p20.2.1) := hs_
  refine blk_seq (blk_asg L trivial hs_ (fun _ => (gx_tup (gxs_cons gx_name (gxs_cons gx_name (gxs_cons gx_name gxs_nil))) rfl)) fun u21 => ?_)
  show Blk _ _ _ _ _ [some (.im (toD a_)), some (.im (toD modulus_)), some (.im (toD u21.a)), some (.im (toD u21.b)), some (.im (toD u21.c))] ((fun (divisor_ : Int) (factor_ : Int) (u__ : Int) => _) u21.a u21.b u21.c)
  generalize u21.a = divisor_
  generalize u21.b = factor_
  generalize u21.c = u__
  show Blk _ _ _ _ _ [some (.im (toD a_)), some (.im (toD modulus_)), some (.im (toD divisor_)), some (.im (toD factor_)), some (.im (toD u__))] _
  try refine Blk.nx ?_
  have ht_ := ((et_test (ev_op opx_neI mild_ok (ev_var (i := 2) (x := divisor_) rfl) (ev_int (i := 1)))) : EvT K (W0 E) [some (.im (toD a_)), some (.im (toD modulus_)), some (.im (toD divisor_)), some (.im (toD factor_)), some (.im (toD u__))] _ _); replace ht_ : EvT K (W0 E) [some (.im (toD a_)), some (.im (toD modulus_)), some (.im (toD divisor_)), some (.im (toD factor_)), some (.im (toD u__))] _ ((Res.ok (!decide (divisor_ = (1 : Int))))) := ht_
  refine blk_seq (blk_if2 L trivial ht_ ?_ ?_)
  · exact blk_raise L trivial
  · refine blk_nil ?_
    try refine Blk.nx ?_
    have hr_ := ((ev_op (opx_I (C := (fun _ j => 0 < j)) (g := fun i j => i % j)) mild_need (ev_var (i := 3) (x := factor_) rfl) (ev_var (i := 1) (x := modulus_) rfl)) : EvX K (W0 E) [some (.im (toD a_)), some (.im (toD modulus_)), some (.im (toD divisor_)), some (.im (toD factor_)), some (.im (toD u__))] _ _); replace hr_ : EvX K (W0 E) [some (.im (toD a_)), some (.im (toD modulus_)), some (.im (toD divisor_)), some (.im (toD factor_)), some (.im (toD u__))] _ (Res.need (0 < modulus_) (Res.ok (factor_ % modulus_))) := hr_
    exact blk_ret L trivial hr_
noncomputable def m_EdwardsCurve_add (self_ : O_EdwardsCurve) (first_ : (T2 Int Int)) (second_ : (T2 Int Int)) : Res (T2 Int Int) :=
  ((Res.ok first_)).bind fun (u22 : (T2 Int Int)) =>   (fun (x1_ : Int) (y1_ : Int) => ((Res.ok second_)).bind fun (u23 : (T2 Int Int)) =>   (fun (x2_ : Int) (y2_ : Int) => ((((Res.need (CMulX self_.f_d x1_) (Res.ok (self_.f_d * x1_))).bind fun (t24 : Int) => Res.need (CMulX t24 x2_) (Res.ok (t24 * x2_))).bind fun (t25 : Int) => Res.need (CMulX t25 y1_) (Res.ok (t25 * y1_))).bind fun (t26 : Int) => Res.need (CMulX t26 y2_) (Res.ok (t26 * y2_))).bind fun (t_ : Int) =>   ((((Res.need (CMulX x1_ y2_) (Res.ok (x1_ * y2_))).bind fun (t27 : Int) => (Res.need (CMulX y1_ x2_) (Res.ok (y1_ * x2_))).bind fun (t28 : Int) => Res.ok (t27 + t28)).bind fun (t29 : Int) => (m_inverse ((1 : Int) + t_) self_.f_prime).bind fun (t30 : Int) => Res.need (CMulX t29 t30) (Res.ok (t29 * t30))).bind fun (t31 : Int) => Res.need (0 < self_.f_prime) (Res.ok (t31 % self_.f_prime))).bind fun (x3_ : Int) =>   ((((Res.need (CMulX y1_ y2_) (Res.ok (y1_ * y2_))).bind fun (t33 : Int) => ((Res.need (CMulX self_.f_a x1_) (Res.ok (self_.f_a * x1_))).bind fun (t32 : Int) => Res.need (CMulX t32 x2_) (Res.ok (t32 * x2_))).bind fun (t34 : Int) => Res.ok (t33 - t34)).bind fun (t35 : Int) => (m_inverse ((1 : Int) - t_) self_.f_prime).bind fun (t36 : Int) => Res.need (CMulX t35 t36) (Res.ok (t35 * t36))).bind fun (t37 : Int) => Res.need (0 < self_.f_prime) (Res.ok (t37 % self_.f_prime))).bind fun (y3_ : Int) =>   (Res.ok (T2.mk x3_ y3_))) u23.a u23.b) u22.a u22.b
theorem ok_EdwardsCurve_add {P : Program} {w : World} {K : PySem.W.Frag} {mg : Str → Option Value} {base : Heap} (T : Facts P w K mg) {fd : FuncData} (F : FnP K "add" "EdwardsCurve.add" s_EdwardsCurve_add (He.ma K (He.ga K "EdwardsCurve") "add") fd) :
    FnOk P w K mg base (L2.CX P w) 3 (He.ma K (He.ga K "EdwardsCurve") "add") fd ["self", "first", "second"] (spM K (fun (p : O_EdwardsCurve × (T2 Int Int) × (T2 Int Int) × Unit) => m_EdwardsCurve_add p.1 p.2.1 p.2.2.1)) := by
  obtain ⟨fd_inverse, F_inverse⟩ := T.d_inverse
  have G_inverse := ok_inverse (P := P) (w := w) (base := base) T F_inverse
  have b_inverse : Binds K fd_inverse ["a", "modulus"] [] := F_inverse.bindsN fun _ _ _ _ _ _ us hl => match us, hl with | [_, _], _ => rfl
  refine fn_ok F sc_EdwardsCurve_add (fun y => rfl) (fun cdv A outer s H E hr => ?_)
  refine ⟨_, (pss_cons (ps_asg (pv 1) (pg_tup rfl (pgs_cons (pg_name (i := 3) sc_EdwardsCurve_add.nd rfl (Or.inl rfl)) (pgs_cons (pg_name (i := 4) sc_EdwardsCurve_add.nd rfl (Or.inl rfl)) pgs_nil)))) (pss_cons (ps_asg (pv 2) (pg_tup rfl (pgs_cons (pg_name (i := 5) sc_EdwardsCurve_add.nd rfl (Or.inl rfl)) (pgs_cons (pg_name (i := 6) sc_EdwardsCurve_add.nd rfl (Or.inl rfl)) pgs_nil)))) (pss_cons (ps_set (i := 7) sc_EdwardsCurve_add.nd rfl (Or.inl rfl) (pe_op op_mulX (pe_op op_mulX (pe_op op_mulX (pe_op op_mulX (pe_fld (pv 0) rfl) (pv 3)) (pv 5)) (pv 4)) (pv 6))) (pss_cons (ps_set (i := 8) sc_EdwardsCurve_add.nd rfl (Or.inl rfl) (pe_op op_mod (pe_op op_mulX (pe_op op_add (pe_op op_mulX (pv 3) (pv 6)) (pe_op op_mulX (pv 4) (pv 5))) (pe_callS G_inverse (hr.mono (by decide)) rfl T.g_inverse F_inverse.kp b_inverse (fun σ => passAt (takes_of rfl rfl rfl rfl) σ) (pa_cons (pe_op op_add pe_int (pv 7)) (pa_cons (pe_fld (pv 0) rfl) pa_nil)))) (pe_fld (pv 0) rfl))) (pss_cons (ps_set (i := 9) sc_EdwardsCurve_add.nd rfl (Or.inl rfl) (pe_op op_mod (pe_op op_mulX (pe_op op_sub (pe_op op_mulX (pv 4) (pv 6)) (pe_op op_mulX (pe_op op_mulX (pe_fld (pv 0) rfl) (pv 3)) (pv 5))) (pe_callS G_inverse (hr.mono (by decide)) rfl T.g_inverse F_inverse.kp b_inverse (fun σ => passAt (takes_of rfl rfl rfl rfl) σ) (pa_cons (pe_op op_sub pe_int (pv 7)) (pa_cons (pe_fld (pv 0) rfl) pa_nil)))) (pe_fld (pv 0) rfl))) (pss_one (ps_ret (pe_tup (pa_cons (pv 8) (pa_cons (pv 9) pa_nil)))))))))), ?_⟩
  rintro ⟨self_, first_, second_, ⟨⟩⟩ F0 H0 Q KP L
  show Blk K F0 H0 KP _ [some (.im (toD self_)), some (.im (toD first_)), some (.im (toD second_)), none, none, none, none, none, none, none] (m_EdwardsCurve_add self_ first_ second_)
  unfold m_EdwardsCurve_add
  have hs_ := ((ev_var (i := 1) (x := first_) rfl) : EvX K (W0 E) [some (.im (toD self_)), some (.im (toD first_)), some (.im (toD second_)), none, none, none, none, none, none, none] _ _); replace hs_ : EvX K (W0 E) [some (.im (toD self_)), some (.im (toD first_)), some (.im (toD second_)), none, none, none, none, none, none, none] _ (Res.ok first_ : Res (T2 Int Int)) := hs_
  refine blk_seq (blk_asg L trivial hs_ (fun _ => (gx_tup (gxs_cons gx_name (gxs_cons gx_name gxs_nil)) rfl)) fun u22 => ?_)
  show Blk _ _ _ _ _ [some (.im (toD self_)), some (.im (toD first_)), some (.im (toD second_)), some (.im (toD u22.a)), some (.im (toD u22.b)), none, none, none, none, none] ((fun (x1_ : Int) (y1_ : Int) => _) u22.a u22.b)
  generalize u22.a = x1_
  generalize u22.b = y1_
  show Blk _ _ _ _ _ [some (.im (toD self_)), some (.im (toD first_)), some (.im (toD second_)), some (.im (toD x1_)), some (.im (toD y1_)), none, none, none, none, none] _
  try refine Blk.nx ?_
  have hs_ := ((ev_var (i := 2) (x := second_) rfl) : EvX K (W0 E) [some (.im (toD self_)), some (.im (toD first_)), some (.im (toD second_)), some (.im (toD x1_)), some (.im (toD y1_)), none, none, none, none, none] _ _); replace hs_ : EvX K (W0 E) [some (.im (toD self_)), some (.im (toD first_)), some (.im (toD second_)), some (.im (toD x1_)), some (.im (toD y1_)), none, none, none, none, none] _ (Res.ok second_ : Res (T2 Int Int)) := hs_
  refine blk_seq (blk_asg L trivial hs_ (fun _ => (gx_tup (gxs_cons gx_name (gxs_cons gx_name gxs_nil)) rfl)) fun u23 => ?_)
  show Blk _ _ _ _ _ [some (.im (toD self_)), some (.im (toD first_)), some (.im (toD second_)), some (.im (toD x1_)), some (.im (toD y1_)), some (.im (toD u23.a)), some (.im (toD u23.b)), none, none, none] ((fun (x2_ : Int) (y2_ : Int) => _) u23.a u23.b)
  generalize u23.a = x2_
  generalize u23.b = y2_
  show Blk _ _ _ _ _ [some (.im (toD self_)), some (.im (toD first_)), some (.im (toD second_)), some (.im (toD x1_)), some (.im (toD y1_)), some (.im (toD x2_)), some (.im (toD y2_)), none, none, none] _
  try refine Blk.nx ?_
  have hs_ := ((ev_op (opx_I (C := CMulX) (g := fun i j => i * j)) mild_need (ev_op (opx_I (C := CMulX) (g := fun i j => i * j)) mild_need (ev_op (opx_I (C := CMulX) (g := fun i j => i * j)) mild_need (ev_op (opx_I (C := CMulX) (g := fun i j => i * j)) mild_need (ev_fld (g := fun (x : O_EdwardsCurve) => x.f_d) (c := "EdwardsCurve") (ks := ["prime", "a", "d"]) (j := 2) (ev_var (i := 0) (x := self_) rfl) T.cl_EdwardsCurve T.nf_EdwardsCurve_d (by decide +kernel) (fun _ => ⟨_, rfl, rfl⟩)) (ev_var (i := 3) (x := x1_) rfl)) (ev_var (i := 5) (x := x2_) rfl)) (ev_var (i := 4) (x := y1_) rfl)) (ev_var (i := 6) (x := y2_) rfl)) : EvX K (W0 E) [some (.im (toD self_)), some (.im (toD first_)), some (.im (toD second_)), some (.im (toD x1_)), some (.im (toD y1_)), some (.im (toD x2_)), some (.im (toD y2_)), none, none, none] _ _); replace hs_ : EvX K (W0 E) [some (.im (toD self_)), some (.im (toD first_)), some (.im (toD second_)), some (.im (toD x1_)), some (.im (toD y1_)), some (.im (toD x2_)), some (.im (toD y2_)), none, none, none] _ ((((Res.need (CMulX self_.f_d x1_) (Res.ok (self_.f_d * x1_))).bind fun (t24 : Int) => Res.need (CMulX t24 x2_) (Res.ok (t24 * x2_))).bind fun (t25 : Int) => Res.need (CMulX t25 y1_) (Res.ok (t25 * y1_))).bind fun (t26 : Int) => Res.need (CMulX t26 y2_) (Res.ok (t26 * y2_))) := hs_
  refine blk_seq (blk_set (i := 7) L trivial hs_ fun t_ => ?_)
  show Blk _ _ _ _ _ [some (.im (toD self_)), some (.im (toD first_)), some (.im (toD second_)), some (.im (toD x1_)), some (.im (toD y1_)), some (.im (toD x2_)), some (.im (toD y2_)), some (.im (toD t_)), none, none] _
  try refine Blk.nx ?_
  have hs_ := ((ev_op (opx_I (C := (fun _ j => 0 < j)) (g := fun i j => i % j)) mild_need (ev_op (opx_I (C := CMulX) (g := fun i j => i * j)) mild_need (ev_op (opx_I0 (g := fun i j => i + j)) mild_ok (ev_op (opx_I (C := CMulX) (g := fun i j => i * j)) mild_need (ev_var (i := 3) (x := x1_) rfl) (ev_var (i := 6) (x := y2_) rfl)) (ev_op (opx_I (C := CMulX) (g := fun i j => i * j)) mild_need (ev_var (i := 4) (x := y1_) rfl) (ev_var (i := 5) (x := x2_) rfl))) (ev_call (f := (fun (p : Int × Int × Unit) => m_inverse p.1 p.2.1)) (ea_cons (ev_op (opx_I0 (g := fun i j => i + j)) mild_ok (ev_int (i := 1)) (ev_var (i := 7) (x := t_) rfl)) (ea_cons (ev_fld (g := fun (x : O_EdwardsCurve) => x.f_prime) (c := "EdwardsCurve") (ks := ["prime", "a", "d"]) (j := 0) (ev_var (i := 0) (x := self_) rfl) T.cl_EdwardsCurve T.nf_EdwardsCurve_prime (by decide +kernel) (fun _ => ⟨_, rfl, rfl⟩)) ea_nil)))) (ev_fld (g := fun (x : O_EdwardsCurve) => x.f_prime) (c := "EdwardsCurve") (ks := ["prime", "a", "d"]) (j := 0) (ev_var (i := 0) (x := self_) rfl) T.cl_EdwardsCurve T.nf_EdwardsCurve_prime (by decide +kernel) (fun _ => ⟨_, rfl, rfl⟩))) : EvX K (W0 E) [some (.im (toD self_)), some (.im (toD first_)), some (.im (toD second_)), some (.im (toD x1_)), some (.im (toD y1_)), some (.im (toD x2_)), some (.im (toD y2_)), some (.im (toD t_)), none, none] _ _); replace hs_ : EvX K (W0 E) [some (.im (toD self_)), some (.im (toD first_)), some (.im (toD second_)), some (.im (toD x1_)), some (.im (toD y1_)), some (.im (toD x2_)), some (.im (toD y2_)), some (.im (toD t_)), none, none] _ ((((Res.need (CMulX x1_ y2_) (Res.ok (x1_ * y2_))).bind fun (t27 : Int) => (Res.need (CMulX y1_ x2_) (Res.ok (y1_ * x2_))).bind fun (t28 : Int) => Res.ok (t27 + t28)).bind fun (t29 : Int) => (m_inverse ((1 : Int) + t_) self_.f_prime).bind fun (t30 : Int) => Res.need (CMulX t29 t30) (Res.ok (t29 * t30))).bind fun (t31 : Int) => Res.need (0 < self_.f_prime) (Res.ok (t31 % self_.f_prime))) := hs_
  refine blk_seq (blk_set (i := 8) L trivial hs_ fun x3_ => ?_)
  show Blk _ _ _ _ _ [some (.im (toD self_)), some (.im (toD first_)), some (.im (toD second_)), some (.im (toD x1_)), some (.im (toD y1_)), some (.im (toD x2_)), some (.im (toD y2_)), some (.im (toD t_)), some (.im (toD x3_)), none] _
  try refine Blk.nx ?_
  have hs_ := ((ev_op (opx_I (C := (fun _ j => 0 < j)) (g := fun i j => i % j)) mild_need (ev_op (opx_I (C := CMulX) (g := fun i j => i * j)) mild_need (ev_op (opx_I0 (g := fun i j => i - j)) mild_ok (ev_op (opx_I (C := CMulX) (g := fun i j => i * j)) mild_need (ev_var (i := 4) (x := y1_) rfl) (ev_var (i := 6) (x := y2_) rfl)) (ev_op (opx_I (C := CMulX) (g := fun i j => i * j)) mild_need (ev_op (opx_I (C := CMulX) (g := fun i j => i * j)) mild_need (ev_fld (g := fun (x : O_EdwardsCurve) => x.f_a) (c := "EdwardsCurve") (ks := ["prime", "a", "d"]) (j := 1) (ev_var (i := 0) (x := self_) rfl) T.cl_EdwardsCurve T.nf_EdwardsCurve_a (by decide +kernel) (fun _ => ⟨_, rfl, rfl⟩)) (ev_var (i := 3) (x := x1_) rfl)) (ev_var (i := 5) (x := x2_) rfl))) (ev_call (f := (fun (p : Int × Int × Unit) => m_inverse p.1 p.2.1)) (ea_cons (ev_op (opx_I0 (g := fun i j => i - j)) mild_ok (ev_int (i := 1)) (ev_var (i := 7) (x := t_) rfl)) (ea_cons (ev_fld (g := fun (x : O_EdwardsCurve) => x.f_prime) (c := "EdwardsCurve") (ks := ["prime", "a", "d"]) (j := 0) (ev_var (i := 0) (x := self_) rfl) T.cl_EdwardsCurve T.nf_EdwardsCurve_prime (by decide +kernel) (fun _ => ⟨_, rfl, rfl⟩)) ea_nil)))) (ev_fld (g := fun (x : O_EdwardsCurve) => x.f_prime) (c := "EdwardsCurve") (ks := ["prime", "a", "d"]) (j := 0) (ev_var (i := 0) (x := self_) rfl) T.cl_EdwardsCurve T.nf_EdwardsCurve_prime (by decide +kernel) (fun _ => ⟨_, rfl, rfl⟩))) : EvX K (W0 E) [some (.im (toD self_)), some (.im (toD first_)), some (.im (toD second_)), some (.im (toD x1_)), some (.im (toD y1_)), some (.im (toD x2_)), some (.im (toD y2_)), some (.im (toD t_)), some (.im (toD x3_)), none] _ _); replace hs_ : EvX K (W0 E) [some (.im (toD self_)), some (.im (toD first_)), some (.im (toD second_)), some (.im (toD x1_)), some (.im (toD y1_)), some (.im (toD x2_)), some (.im (toD y2_)), some (.im (toD t_)), some (.im (toD x3_)), none] _ ((((Res.need (CMulX y1_ y2_) (Res.ok (y1_ * y2_))).bind fun (t33 : Int) => ((Res.need (CMulX self_.f_a x1_) (Res.ok (self_.f_a * x1_))).bind fun (t32 : Int) => Res.need (CMulX t32 x2_) (Res.ok (t32 * x2_))).bind fun (t34 : Int) => Res.ok (t33 - t34)).bind fun (t35 : Int) => (m_inverse ((1 : Int) - t_) self_.f_prime).bind fun (t36 : Int) => Res.need (CMulX t35 t36) (Res.ok (t35 * t36))).bind fun (t37 : Int) => Res.need (0 < self_.f_prime) (Res.ok (t37 % self_.f_prime))) := hs_
  refine blk_seq (blk_set (i := 9) L trivial hs_ fun y3_ => ?_)
  show Blk _ _ _ _ _ [some (.im (toD self_)), some (.im (toD first_)), some (.im (toD second_)), some (.im (toD x1_)), some (.im (toD y1_)), some (.im (toD x2_)), some (.im (toD y2_)), some (.im (toD t_)), some (.im (toD x3_)), some (.im (toD y3_))] _
  try refine Blk.nx ?_
  have hr_ := ((ev_tup (f := (fun y => T2.mk y.1 y.2.1)) (ea_cons (ev_var (i := 8) (x := x3_) rfl) (ea_cons (ev_var (i := 9) (x := y3_) rfl) ea_nil)) (fun _ => rfl) (fun _ => by show 2 ≤ 100000; decide)) : EvX K (W0 E) [some (.im (toD self_)), some (.im (toD first_)), some (.im (toD second_)), some (.im (toD x1_)), some (.im (toD y1_)), some (.im (toD x2_)), some (.im (toD y2_)), some (.im (toD t_)), some (.im (toD x3_)), some (.im (toD y3_))] _ _); replace hr_ : EvX K (W0 E) [some (.im (toD self_)), some (.im (toD first_)), some (.im (toD second_)), some (.im (toD x1_)), some (.im (toD y1_)), some (.im (toD x2_)), some (.im (toD y2_)), some (.im (toD t_)), some (.im (toD x3_)), some (.im (toD y3_))] _ (Res.ok (T2.mk x3_ y3_) : Res (T2 Int Int)) := hr_
  exact blk_ret L trivial hr_
noncomputable def m_Curve_u_slope_k1 (self_ : O_Curve) : Int × Int → Res Int := fun (rise_, run_) =>   ((m_inverse run_ self_.f_prime).bind fun (t38 : Int) => Res.need (CMulX rise_ t38) (Res.ok (rise_ * t38))).bind fun (t39 : Int) => Res.need (0 < self_.f_prime) (Res.ok (t39 % self_.f_prime))
noncomputable def m_Curve_u_slope (self_ : O_Curve) (first_ : (T2 Int Int)) (second_ : (T2 Int Int)) : Res Int :=
  (Res.need ((toD first_).okq = true ∧ (toD second_).okq = true) (Res.ok (pyEq (toD first_) (toD second_)))).bind fun b => cond b   ((((Res.need (CPowX first_.a (2 : Int)) (Res.ok (first_.a ^ (2 : Int).toNat))).bind fun (t40 : Int) => Res.ok ((3 : Int) * t40)).bind fun (t41 : Int) => Res.ok (t41 + self_.f_a)).bind fun (p42 : Int) => ((Res.ok ((2 : Int) * first_.b))).bind fun (p43 : Int) =>   (fun (rise_ : Int) (run_ : Int) => (m_Curve_u_slope_k1 self_) (rise_, run_)) p42 p43)   (((Res.ok (second_.b - first_.b))).bind fun (p44 : Int) => ((Res.ok (second_.a - first_.a))).bind fun (p45 : Int) =>   (fun (rise_ : Int) (run_ : Int) => (m_Curve_u_slope_k1 self_) (rise_, run_)) p44 p45)
theorem ok_Curve_u_slope {P : Program} {w : World} {K : PySem.W.Frag} {mg : Str → Option Value} {base : Heap} (T : Facts P w K mg) {fd : FuncData} (F : FnP K "_slope" "Curve._slope" s_Curve_u_slope (He.ma K (He.ga K "Curve") "_slope") fd) :
    FnOk P w K mg base (L2.CX P w) 3 (He.ma K (He.ga K "Curve") "_slope") fd ["self", "first", "second"] (spM K (fun (p : O_Curve × (T2 Int Int) × (T2 Int Int) × Unit) => m_Curve_u_slope p.1 p.2.1 p.2.2.1)) := by
  obtain ⟨fd_inverse, F_inverse⟩ := T.d_inverse
  have G_inverse := ok_inverse (P := P) (w := w) (base := base) T F_inverse
  have b_inverse : Binds K fd_inverse ["a", "modulus"] [] := F_inverse.bindsN fun _ _ _ _ _ _ us hl => match us, hl with | [_, _], _ => rfl
  refine fn_ok F sc_Curve_u_slope (fun y => rfl) (fun cdv A outer s H E hr => ?_)
  refine ⟨_, (pss_cons (ps_if (pt_cmpR (op_eqD (Room.units hr)) (pv 1) (pv 2) (nomark _)) (pss_one (ps_par (i := 3) (j := 4) (by rfl) sc_Curve_u_slope.nd rfl rfl (by decide) rfl rfl (pa_cons (pe_op op_add (pe_op op_mul pe_int (pe_op op_powX (pe_ix (cr_ixT rfl) (pv 1) pe_int (fun _ _ => rfl)) pe_int)) (pe_fld (pv 0) rfl)) (pa_cons (pe_op op_mul pe_int (pe_ix (cr_ixT rfl) (pv 1) pe_int (fun _ _ => rfl))) pa_nil)) (by rfl))) (pss_one (ps_par (i := 3) (j := 4) (by rfl) sc_Curve_u_slope.nd rfl rfl (by decide) rfl rfl (pa_cons (pe_op op_sub (pe_ix (cr_ixT rfl) (pv 2) pe_int (fun _ _ => rfl)) (pe_ix (cr_ixT rfl) (pv 1) pe_int (fun _ _ => rfl))) (pa_cons (pe_op op_sub (pe_ix (cr_ixT rfl) (pv 2) pe_int (fun _ _ => rfl)) (pe_ix (cr_ixT rfl) (pv 1) pe_int (fun _ _ => rfl))) pa_nil)) (by rfl)))) (pss_one (ps_ret (pe_op op_mod (pe_op op_mulX (pv 3) (pe_callS G_inverse (hr.mono (by decide)) rfl T.g_inverse F_inverse.kp b_inverse (fun σ => passAt (takes_of rfl rfl rfl rfl) σ) (pa_cons (pv 4) (pa_cons (pe_fld (pv 0) rfl) pa_nil)))) (pe_fld (pv 0) rfl))))), ?_⟩
  rintro ⟨self_, first_, second_, ⟨⟩⟩ F0 H0 Q KP L
  show Blk K F0 H0 KP _ [some (.im (toD self_)), some (.im (toD first_)), some (.im (toD second_)), none, none] (m_Curve_u_slope self_ first_ second_)
  unfold m_Curve_u_slope
  have ht_ := ((et_test (ev_op opx_eqD mild_need (ev_var (i := 1) (x := first_) rfl) (ev_var (i := 2) (x := second_) rfl))) : EvT K (W0 E) [some (.im (toD self_)), some (.im (toD first_)), some (.im (toD second_)), none, none] _ _); replace ht_ : EvT K (W0 E) [some (.im (toD self_)), some (.im (toD first_)), some (.im (toD second_)), none, none] _ (Res.need ((toD first_).okq = true ∧ (toD second_).okq = true) (Res.ok (pyEq (toD first_) (toD second_)))) := ht_
  refine blk_seq (blk_ifj (S := Int × Int) (fun (rise_, run_) => [some (.im (toD self_)), some (.im (toD first_)), some (.im (toD second_)), some (.im (toD rise_)), some (.im (toD run_))]) (m_Curve_u_slope_k1 self_) L trivial ht_ ?_ ?_ ?_)
  · rintro ⟨rise_, run_⟩
    show Blk _ _ _ _ _ [some (.im (toD self_)), some (.im (toD first_)), some (.im (toD second_)), some (.im (toD rise_)), some (.im (toD run_))] ((m_Curve_u_slope_k1 self_) (rise_, run_))
    unfold m_Curve_u_slope_k1
    try refine Blk.nx ?_
    have hr_ := ((ev_op (opx_I (C := (fun _ j => 0 < j)) (g := fun i j => i % j)) mild_need (ev_op (opx_I (C := CMulX) (g := fun i j => i * j)) mild_need (ev_var (i := 3) (x := rise_) rfl) (ev_call (f := (fun (p : Int × Int × Unit) => m_inverse p.1 p.2.1)) (ea_cons (ev_var (i := 4) (x := run_) rfl) (ea_cons (ev_fld (g := fun (x : O_Curve) => x.f_prime) (c := "Curve") (ks := ["prime", "a", "b"]) (j := 0) (ev_var (i := 0) (x := self_) rfl) T.cl_Curve T.nf_Curve_prime (by decide +kernel) (fun _ => ⟨_, rfl, rfl⟩)) ea_nil)))) (ev_fld (g := fun (x : O_Curve) => x.f_prime) (c := "Curve") (ks := ["prime", "a", "b"]) (j := 0) (ev_var (i := 0) (x := self_) rfl) T.cl_Curve T.nf_Curve_prime (by decide +kernel) (fun _ => ⟨_, rfl, rfl⟩))) : EvX K (W0 E) [some (.im (toD self_)), some (.im (toD first_)), some (.im (toD second_)), some (.im (toD rise_)), some (.im (toD run_))] _ _); replace hr_ : EvX K (W0 E) [some (.im (toD self_)), some (.im (toD first_)), some (.im (toD second_)), some (.im (toD rise_)), some (.im (toD run_))] _ (((m_inverse run_ self_.f_prime).bind fun (t38 : Int) => Res.need (CMulX rise_ t38) (Res.ok (rise_ * t38))).bind fun (t39 : Int) => Res.need (0 < self_.f_prime) (Res.ok (t39 % self_.f_prime))) := hr_
    exact blk_ret L trivial hr_
  · intro hk1
    have ha_ := ((ev_op (opx_I0 (g := fun i j => i + j)) mild_ok (ev_opI (C := CMul) (g := fun i j => i * j) (fun x y h _ => by cases h; exact .inl (by decide)) (ev_int (i := 3)) (ev_op (opx_I (C := CPowX) (g := fun i j => i ^ j.toNat)) mild_need (ev_ixTC (i := 0) (f := fun x => x.a) (ev_var (i := 1) (x := first_) rfl) (fun x => ⟨_, rfl, rfl⟩)) (ev_int (i := 2)))) (ev_fld (g := fun (x : O_Curve) => x.f_a) (c := "Curve") (ks := ["prime", "a", "b"]) (j := 1) (ev_var (i := 0) (x := self_) rfl) T.cl_Curve T.nf_Curve_a (by decide +kernel) (fun _ => ⟨_, rfl, rfl⟩))) : EvX K (W0 E) [some (.im (toD self_)), some (.im (toD first_)), some (.im (toD second_)), none, none] _ _); replace ha_ : EvX K (W0 E) [some (.im (toD self_)), some (.im (toD first_)), some (.im (toD second_)), none, none] _ (((Res.need (CPowX first_.a (2 : Int)) (Res.ok (first_.a ^ (2 : Int).toNat))).bind fun (t40 : Int) => Res.ok ((3 : Int) * t40)).bind fun (t41 : Int) => Res.ok (t41 + self_.f_a)) := ha_
    have hb_ := ((ev_opI (C := CMul) (g := fun i j => i * j) (fun x y h _ => by cases h; exact .inl (by decide)) (ev_int (i := 2)) (ev_ixTC (i := 1) (f := fun x => x.b) (ev_var (i := 1) (x := first_) rfl) (fun x => ⟨_, rfl, rfl⟩))) : EvX K (W0 E) [some (.im (toD self_)), some (.im (toD first_)), some (.im (toD second_)), none, none] _ _); replace hb_ : EvX K (W0 E) [some (.im (toD self_)), some (.im (toD first_)), some (.im (toD second_)), none, none] _ (Res.ok ((2 : Int) * first_.b) : Res Int) := hb_
    refine blk_par (i := 3) (j := 4) L trivial ha_ hb_ fun rise_ run_ => ?_
    show Blk _ _ _ _ _ [some (.im (toD self_)), some (.im (toD first_)), some (.im (toD second_)), some (.im (toD rise_)), some (.im (toD run_))] _
    try refine Blk.nx ?_
    exact (hk1 (rise_, run_)).weak (.same (.same (.same (.same (.same .nil)))))
  · intro hk1
    have ha_ := ((ev_op (opx_I0 (g := fun i j => i - j)) mild_ok (ev_ixTC (i := 1) (f := fun x => x.b) (ev_var (i := 2) (x := second_) rfl) (fun x => ⟨_, rfl, rfl⟩)) (ev_ixTC (i := 1) (f := fun x => x.b) (ev_var (i := 1) (x := first_) rfl) (fun x => ⟨_, rfl, rfl⟩))) : EvX K (W0 E) [some (.im (toD self_)), some (.im (toD first_)), some (.im (toD second_)), none, none] _ _); replace ha_ : EvX K (W0 E) [some (.im (toD self_)), some (.im (toD first_)), some (.im (toD second_)), none, none] _ (Res.ok (second_.b - first_.b) : Res Int) := ha_
    have hb_ := ((ev_op (opx_I0 (g := fun i j => i - j)) mild_ok (ev_ixTC (i := 0) (f := fun x => x.a) (ev_var (i := 2) (x := second_) rfl) (fun x => ⟨_, rfl, rfl⟩)) (ev_ixTC (i := 0) (f := fun x => x.a) (ev_var (i := 1) (x := first_) rfl) (fun x => ⟨_, rfl, rfl⟩))) : EvX K (W0 E) [some (.im (toD self_)), some (.im (toD first_)), some (.im (toD second_)), none, none] _ _); replace hb_ : EvX K (W0 E) [some (.im (toD self_)), some (.im (toD first_)), some (.im (toD second_)), none, none] _ (Res.ok (second_.a - first_.a) : Res Int) := hb_
    refine blk_par (i := 3) (j := 4) L trivial ha_ hb_ fun rise_ run_ => ?_
    show Blk _ _ _ _ _ [some (.im (toD self_)), some (.im (toD first_)), some (.im (toD second_)), some (.im (toD rise_)), some (.im (toD run_))] _
    try refine Blk.nx ?_
    exact (hk1 (rise_, run_)).weak (.same (.same (.same (.same (.same .nil)))))
noncomputable def m_EdwardsCurve_negate (self_ : O_EdwardsCurve) (point_ : (T2 Int Int)) : Res (T2 Int Int) :=
  ((Res.need (0 < self_.f_prime) (Res.ok ((-point_.a) % self_.f_prime))).bind fun a46 => Res.ok (a46, (point_.b, ()))).bind fun p48 => Res.ok (T2.mk p48.1 p48.2.1)
theorem ok_EdwardsCurve_negate {P : Program} {w : World} {K : PySem.W.Frag} {mg : Str → Option Value} {base : Heap} (T : Facts P w K mg) {fd : FuncData} (F : FnP K "negate" "EdwardsCurve.negate" s_EdwardsCurve_negate (He.ma K (He.ga K "EdwardsCurve") "negate") fd) :
    FnOk P w K mg base (L2.CX P w) 1 (He.ma K (He.ga K "EdwardsCurve") "negate") fd ["self", "point"] (spM K (fun (p : O_EdwardsCurve × (T2 Int Int) × Unit) => m_EdwardsCurve_negate p.1 p.2.1)) := by
  refine fn_ok F sc_EdwardsCurve_negate (fun y => rfl) (fun cdv A outer s H E hr => ?_)
  refine ⟨_, (pss_one (ps_ret (pe_tup (pa_cons (pe_op op_mod (pe_un un_neg (pe_ix (cr_ixT rfl) (pv 1) pe_int (fun _ _ => rfl))) (pe_fld (pv 0) rfl)) (pa_cons (pe_ix (cr_ixT rfl) (pv 1) pe_int (fun _ _ => rfl)) pa_nil))))), ?_⟩
  rintro ⟨self_, point_, ⟨⟩⟩ F0 H0 Q KP L
  show Blk K F0 H0 KP _ [some (.im (toD self_)), some (.im (toD point_))] (m_EdwardsCurve_negate self_ point_)
  unfold m_EdwardsCurve_negate
  have hr_ := ((ev_tup (f := (fun y => T2.mk y.1 y.2.1)) (ea_cons (ev_op (opx_I (C := (fun _ j => 0 < j)) (g := fun i j => i % j)) mild_need (ev_un (g := fun i => -i) (ev_ixTC (i := 0) (f := fun x => x.a) (ev_var (i := 1) (x := point_) rfl) (fun x => ⟨_, rfl, rfl⟩))) (ev_fld (g := fun (x : O_EdwardsCurve) => x.f_prime) (c := "EdwardsCurve") (ks := ["prime", "a", "d"]) (j := 0) (ev_var (i := 0) (x := self_) rfl) T.cl_EdwardsCurve T.nf_EdwardsCurve_prime (by decide +kernel) (fun _ => ⟨_, rfl, rfl⟩))) (ea_cons (ev_ixTC (i := 1) (f := fun x => x.b) (ev_var (i := 1) (x := point_) rfl) (fun x => ⟨_, rfl, rfl⟩)) ea_nil)) (fun _ => rfl) (fun _ => by show 2 ≤ 100000; decide)) : EvX K (W0 E) [some (.im (toD self_)), some (.im (toD point_))] _ _); replace hr_ : EvX K (W0 E) [some (.im (toD self_)), some (.im (toD point_))] _ (((Res.need (0 < self_.f_prime) (Res.ok ((-point_.a) % self_.f_prime))).bind fun a46 => Res.ok (a46, (point_.b, ()))).bind fun p48 => Res.ok (T2.mk p48.1 p48.2.1)) := hr_
  exact blk_ret L trivial hr_
noncomputable def m_Curve_negate (self_ : O_Curve) (point_ : (Option (T2 Int Int))) : Res (Option (T2 Int Int)) :=
  ((Res.ok (toD point_).isNon)).bind fun b => cond b   ((Res.ok (none : (Option (T2 Int Int)))))   (((((((Res.ok point_)).bind optGet).bind fun (t49 : (T2 Int Int)) => Res.ok t49.a).bind fun a55 => (((((((Res.ok point_)).bind optGet).bind fun (t50 : (T2 Int Int)) => Res.ok t50.b).bind fun (t51 : Int) => Res.ok (-t51)).bind fun (t52 : Int) => Res.need (0 < self_.f_prime) (Res.ok (t52 % self_.f_prime))).bind fun a53 => Res.ok (a53, ())).bind fun a56 => Res.ok (a55, a56)).bind fun p57 => Res.ok (T2.mk p57.1 p57.2.1)).bind fun (x : (T2 Int Int)) => Res.ok (some x))
theorem ok_Curve_negate {P : Program} {w : World} {K : PySem.W.Frag} {mg : Str → Option Value} {base : Heap} (T : Facts P w K mg) {fd : FuncData} (F : FnP K "negate" "Curve.negate" s_Curve_negate (He.ma K (He.ga K "Curve") "negate") fd) :
    FnOk P w K mg base (L2.CX P w) 1 (He.ma K (He.ga K "Curve") "negate") fd ["self", "point"] (spM K (fun (p : O_Curve × (Option (T2 Int Int)) × Unit) => m_Curve_negate p.1 p.2.1)) := by
  refine fn_ok F sc_Curve_negate (fun y => rfl) (fun cdv A outer s H E hr => ?_)
  refine ⟨_, (pss_cons (ps_if (pt_cmpR op_isN (pv 1) pe_non (nomark _)) (pss_one (ps_ret pe_non)) pss_nil) (pss_one (ps_ret (pe_tup (pa_cons (pe_ix (cr_ixT rfl) (pv 1) pe_int (fun _ _ => rfl)) (pa_cons (pe_op op_mod (pe_un un_neg (pe_ix (cr_ixT rfl) (pv 1) pe_int (fun _ _ => rfl))) (pe_fld (pv 0) rfl)) pa_nil)))))), ?_⟩
  rintro ⟨self_, point_, ⟨⟩⟩ F0 H0 Q KP L
  show Blk K F0 H0 KP _ [some (.im (toD self_)), some (.im (toD point_))] (m_Curve_negate self_ point_)
  unfold m_Curve_negate
  have ht_ := ((et_test (ev_op opx_isN mild_ok (ev_var (i := 1) (x := point_) rfl) ev_non)) : EvT K (W0 E) [some (.im (toD self_)), some (.im (toD point_))] _ _); replace ht_ : EvT K (W0 E) [some (.im (toD self_)), some (.im (toD point_))] _ ((Res.ok (toD point_).isNon)) := ht_
  refine blk_seq (blk_if2 L trivial ht_ ?_ ?_)
  · have hr_ := ((ev_noneO (α := (T2 Int Int))) : EvX K (W0 E) [some (.im (toD self_)), some (.im (toD point_))] _ _); replace hr_ : EvX K (W0 E) [some (.im (toD self_)), some (.im (toD point_))] _ (Res.ok (none : (Option (T2 Int Int))) : Res (Option (T2 Int Int))) := hr_
    exact blk_ret L trivial hr_
  · refine blk_nil ?_
    try refine Blk.nx ?_
    have hr_ := ((ev_as (ev_tup (f := (fun y => T2.mk y.1 y.2.1)) (ea_cons (ev_ixTC (i := 0) (f := fun x => x.a) (ev_castG (f := optGet) optGet_ok optGet_x (ev_var (i := 1) (x := point_) rfl)) (fun x => ⟨_, rfl, rfl⟩)) (ea_cons (ev_op (opx_I (C := (fun _ j => 0 < j)) (g := fun i j => i % j)) mild_need (ev_un (g := fun i => -i) (ev_ixTC (i := 1) (f := fun x => x.b) (ev_castG (f := optGet) optGet_ok optGet_x (ev_var (i := 1) (x := point_) rfl)) (fun x => ⟨_, rfl, rfl⟩))) (ev_fld (g := fun (x : O_Curve) => x.f_prime) (c := "Curve") (ks := ["prime", "a", "b"]) (j := 0) (ev_var (i := 0) (x := self_) rfl) T.cl_Curve T.nf_Curve_prime (by decide +kernel) (fun _ => ⟨_, rfl, rfl⟩))) ea_nil)) (fun _ => rfl) (fun _ => by show 2 ≤ 100000; decide)) some (fun _ => rfl) rfl) : EvX K (W0 E) [some (.im (toD self_)), some (.im (toD point_))] _ _); replace hr_ : EvX K (W0 E) [some (.im (toD self_)), some (.im (toD point_))] _ (((((((Res.ok point_)).bind optGet).bind fun (t49 : (T2 Int Int)) => Res.ok t49.a).bind fun a55 => (((((((Res.ok point_)).bind optGet).bind fun (t50 : (T2 Int Int)) => Res.ok t50.b).bind fun (t51 : Int) => Res.ok (-t51)).bind fun (t52 : Int) => Res.need (0 < self_.f_prime) (Res.ok (t52 % self_.f_prime))).bind fun a53 => Res.ok (a53, ())).bind fun a56 => Res.ok (a55, a56)).bind fun p57 => Res.ok (T2.mk p57.1 p57.2.1)).bind fun (x : (T2 Int Int)) => Res.ok (some x)) := hr_
    exact blk_ret L trivial hr_
noncomputable def m_Group_negate (self_ : O_Group) (point_ : (Option (T2 Int Int))) : Res (Option (T2 Int Int)) :=
  m_Curve_negate self_.f_curve point_
theorem ok_Group_negate {P : Program} {w : World} {K : PySem.W.Frag} {mg : Str → Option Value} {base : Heap} (T : Facts P w K mg) {fd : FuncData} (F : FnP K "negate" "Group.negate" s_Group_negate (He.ma K (He.ga K "Group") "negate") fd) :
    FnOk P w K mg base (L2.CX P w) 2 (He.ma K (He.ga K "Group") "negate") fd ["self", "point"] (spM K (fun (p : O_Group × (Option (T2 Int Int)) × Unit) => m_Group_negate p.1 p.2.1)) := by
  obtain ⟨fd_Curve_negate, F_Curve_negate⟩ := T.d_Curve_negate
  have G_Curve_negate := ok_Curve_negate (P := P) (w := w) (base := base) T F_Curve_negate
  have b_Curve_negate : Binds K fd_Curve_negate ["self", "point"] [] := F_Curve_negate.bindsN fun _ _ _ _ _ _ us hl => match us, hl with | [_, _], _ => rfl
  refine fn_ok F sc_Group_negate (fun y => rfl) (fun cdv A outer s H E hr => ?_)
  refine ⟨_, (pss_one (ps_ret (pe_methQ (pe_fld (pv 0) rfl) T.cl_Curve T.mt_Curve_negate G_Curve_negate (hr.mono (by decide)) b_Curve_negate (fun σ => passAt (takes_of rfl rfl rfl rfl) σ) (pa_cons (pv 1) pa_nil)))), ?_⟩
  rintro ⟨self_, point_, ⟨⟩⟩ F0 H0 Q KP L
  show Blk K F0 H0 KP _ [some (.im (toD self_)), some (.im (toD point_))] (m_Group_negate self_ point_)
  unfold m_Group_negate
  have hr_ := ((ev_meth (c := "Curve") (m := "negate") (ks := ["prime", "a", "b"]) (f := (fun (p : O_Curve × (Option (T2 Int Int)) × Unit) => m_Curve_negate p.1 p.2.1)) (ev_fld (g := fun (x : O_Group) => x.f_curve) (c := "Group") (ks := ["name", "kind", "curve", "prime", "base", "order", "cofactor", "size", "order_size"]) (j := 2) (ev_var (i := 0) (x := self_) rfl) T.cl_Group T.nf_Group_curve (by decide +kernel) (fun _ => ⟨_, rfl, rfl⟩)) (ea_cons (ev_var (i := 1) (x := point_) rfl) ea_nil) (by decide +kernel) (fun _ => ⟨_, rfl⟩)) : EvX K (W0 E) [some (.im (toD self_)), some (.im (toD point_))] _ _); replace hr_ : EvX K (W0 E) [some (.im (toD self_)), some (.im (toD point_))] _ (m_Curve_negate self_.f_curve point_) := hr_
  exact blk_ret L trivial hr_
noncomputable def m_EdwardsGroup_negate (self_ : O_EdwardsGroup) (point_ : (T2 Int Int)) : Res (T2 Int Int) :=
  m_EdwardsCurve_negate self_.f_curve point_
theorem ok_EdwardsGroup_negate {P : Program} {w : World} {K : PySem.W.Frag} {mg : Str → Option Value} {base : Heap} (T : Facts P w K mg) {fd : FuncData} (F : FnP K "negate" "EdwardsGroup.negate" s_EdwardsGroup_negate (He.ma K (He.ga K "EdwardsGroup") "negate") fd) :
    FnOk P w K mg base (L2.CX P w) 2 (He.ma K (He.ga K "EdwardsGroup") "negate") fd ["self", "point"] (spM K (fun (p : O_EdwardsGroup × (T2 Int Int) × Unit) => m_EdwardsGroup_negate p.1 p.2.1)) := by
  obtain ⟨fd_EdwardsCurve_negate, F_EdwardsCurve_negate⟩ := T.d_EdwardsCurve_negate
  have G_EdwardsCurve_negate := ok_EdwardsCurve_negate (P := P) (w := w) (base := base) T F_EdwardsCurve_negate
  have b_EdwardsCurve_negate : Binds K fd_EdwardsCurve_negate ["self", "point"] [] := F_EdwardsCurve_negate.bindsN fun _ _ _ _ _ _ us hl => match us, hl with | [_, _], _ => rfl
  refine fn_ok F sc_EdwardsGroup_negate (fun y => rfl) (fun cdv A outer s H E hr => ?_)
  refine ⟨_, (pss_one (ps_ret (pe_methQ (pe_fld (pv 0) rfl) T.cl_EdwardsCurve T.mt_EdwardsCurve_negate G_EdwardsCurve_negate (hr.mono (by decide)) b_EdwardsCurve_negate (fun σ => passAt (takes_of rfl rfl rfl rfl) σ) (pa_cons (pv 1) pa_nil)))), ?_⟩
  rintro ⟨self_, point_, ⟨⟩⟩ F0 H0 Q KP L
  show Blk K F0 H0 KP _ [some (.im (toD self_)), some (.im (toD point_))] (m_EdwardsGroup_negate self_ point_)
  unfold m_EdwardsGroup_negate
  have hr_ := ((ev_meth (c := "EdwardsCurve") (m := "negate") (ks := ["prime", "a", "d"]) (f := (fun (p : O_EdwardsCurve × (T2 Int Int) × Unit) => m_EdwardsCurve_negate p.1 p.2.1)) (ev_fld (g := fun (x : O_EdwardsGroup) => x.f_curve) (c := "EdwardsGroup") (ks := ["name", "kind", "curve", "prime", "base", "order", "cofactor", "size", "order_size"]) (j := 2) (ev_var (i := 0) (x := self_) rfl) T.cl_EdwardsGroup T.nf_EdwardsGroup_curve (by decide +kernel) (fun _ => ⟨_, rfl, rfl⟩)) (ea_cons (ev_var (i := 1) (x := point_) rfl) ea_nil) (by decide +kernel) (fun _ => ⟨_, rfl⟩)) : EvX K (W0 E) [some (.im (toD self_)), some (.im (toD point_))] _ _); replace hr_ : EvX K (W0 E) [some (.im (toD self_)), some (.im (toD point_))] _ (m_EdwardsCurve_negate self_.f_curve point_) := hr_
  exact blk_ret L trivial hr_
noncomputable def m_Curve_add (self_ : O_Curve) (first_ : (Option (T2 Int Int))) (second_ : (Option (T2 Int Int))) : Res (Option (T2 Int Int)) :=
  ((Res.ok (toD first_).isNon)).bind fun b => cond b   ((Res.ok second_))   (((Res.ok (toD second_).isNon)).bind fun b => cond b   ((Res.ok first_))   (((m_Curve_negate self_ first_).bind fun (t61 : (Option (T2 Int Int))) => Res.need ((toD second_).okq = true ∧ (toD t61).okq = true) (Res.ok (pyEq (toD second_) (toD t61)))).bind fun b => cond b   ((Res.ok (none : (Option (T2 Int Int)))))   ((((((Res.ok first_)).bind optGet).bind fun a65 => ((((Res.ok second_)).bind optGet).bind fun a63 => Res.ok (a63, ())).bind fun a66 => Res.ok (a65, a66)).bind fun p67 => m_Curve_u_slope self_ p67.1 p67.2.1).bind fun (slope_ : Int) =>   ((((Res.need (CPowX slope_ (2 : Int)) (Res.ok (slope_ ^ (2 : Int).toNat))).bind fun (t69 : Int) => ((((Res.ok first_)).bind optGet).bind fun (t68 : (T2 Int Int)) => Res.ok t68.a).bind fun (t70 : Int) => Res.ok (t69 - t70)).bind fun (t72 : Int) => ((((Res.ok second_)).bind optGet).bind fun (t71 : (T2 Int Int)) => Res.ok t71.a).bind fun (t73 : Int) => Res.ok (t72 - t73)).bind fun (t74 : Int) => Res.need (0 < self_.f_prime) (Res.ok (t74 % self_.f_prime))).bind fun (x_ : Int) =>   (((((((((((Res.ok first_)).bind optGet).bind fun (t75 : (T2 Int Int)) => Res.ok t75.a).bind fun (t76 : Int) => Res.ok (t76 - x_)).bind fun (t77 : Int) => Res.need (CMulX slope_ t77) (Res.ok (slope_ * t77))).bind fun (t79 : Int) => ((((Res.ok first_)).bind optGet).bind fun (t78 : (T2 Int Int)) => Res.ok t78.b).bind fun (t80 : Int) => Res.ok (t79 - t80)).bind fun (t81 : Int) => Res.need (0 < self_.f_prime) (Res.ok (t81 % self_.f_prime))).bind fun a82 => Res.ok (a82, ())).bind fun a85 => Res.ok (x_, a85)).bind fun p86 => Res.ok (T2.mk p86.1 p86.2.1)).bind fun (x : (T2 Int Int)) => Res.ok (some x))))
theorem ok_Curve_add {P : Program} {w : World} {K : PySem.W.Frag} {mg : Str → Option Value} {base : Heap} (T : Facts P w K mg) {fd : FuncData} (F : FnP K "add" "Curve.add" s_Curve_add (He.ma K (He.ga K "Curve") "add") fd) :
    FnOk P w K mg base (L2.CX P w) 4 (He.ma K (He.ga K "Curve") "add") fd ["self", "first", "second"] (spM K (fun (p : O_Curve × (Option (T2 Int Int)) × (Option (T2 Int Int)) × Unit) => m_Curve_add p.1 p.2.1 p.2.2.1)) := by
  obtain ⟨fd_Curve_u_slope, F_Curve_u_slope⟩ := T.d_Curve_u_slope
  have G_Curve_u_slope := ok_Curve_u_slope (P := P) (w := w) (base := base) T F_Curve_u_slope
  have b_Curve_u_slope : Binds K fd_Curve_u_slope ["self", "first", "second"] [] := F_Curve_u_slope.bindsN fun _ _ _ _ _ _ us hl => match us, hl with | [_, _, _], _ => rfl
  obtain ⟨fd_Curve_negate, F_Curve_negate⟩ := T.d_Curve_negate
  have G_Curve_negate := ok_Curve_negate (P := P) (w := w) (base := base) T F_Curve_negate
  have b_Curve_negate : Binds K fd_Curve_negate ["self", "point"] [] := F_Curve_negate.bindsN fun _ _ _ _ _ _ us hl => match us, hl with | [_, _], _ => rfl
  refine fn_ok F sc_Curve_add (fun y => rfl) (fun cdv A outer s H E hr => ?_)
  refine ⟨_, (pss_cons (ps_if (pt_cmpR op_isN (pv 1) pe_non (nomark _)) (pss_one (ps_ret (pv 2))) pss_nil) (pss_cons (ps_if (pt_cmpR op_isN (pv 2) pe_non (nomark _)) (pss_one (ps_ret (pv 1))) pss_nil) (pss_cons (ps_if (pt_cmpR (op_eqD (Room.units hr)) (pv 2) (pe_methQ (pv 0) T.cl_Curve T.mt_Curve_negate G_Curve_negate (hr.mono (by decide)) b_Curve_negate (fun σ => passAt (takes_of rfl rfl rfl rfl) σ) (pa_cons (pv 1) pa_nil)) (nomark _)) (pss_one (ps_ret pe_non)) pss_nil) (pss_cons (ps_set (i := 3) sc_Curve_add.nd rfl (Or.inl rfl) (pe_methQ (pv 0) T.cl_Curve T.mt_Curve_u_slope G_Curve_u_slope (hr.mono (by decide)) b_Curve_u_slope (fun σ => passAt (takes_of rfl rfl rfl rfl) σ) (pa_cons (pv 1) (pa_cons (pv 2) pa_nil)))) (pss_cons (ps_set (i := 4) sc_Curve_add.nd rfl (Or.inl rfl) (pe_op op_mod (pe_op op_sub (pe_op op_sub (pe_op op_powX (pv 3) pe_int) (pe_ix (cr_ixT rfl) (pv 1) pe_int (fun _ _ => rfl))) (pe_ix (cr_ixT rfl) (pv 2) pe_int (fun _ _ => rfl))) (pe_fld (pv 0) rfl))) (pss_one (ps_ret (pe_tup (pa_cons (pv 4) (pa_cons (pe_op op_mod (pe_op op_sub (pe_op op_mulX (pv 3) (pe_op op_sub (pe_ix (cr_ixT rfl) (pv 1) pe_int (fun _ _ => rfl)) (pv 4))) (pe_ix (cr_ixT rfl) (pv 1) pe_int (fun _ _ => rfl))) (pe_fld (pv 0) rfl)) pa_nil)))))))))), ?_⟩
  rintro ⟨self_, first_, second_, ⟨⟩⟩ F0 H0 Q KP L
  show Blk K F0 H0 KP _ [some (.im (toD self_)), some (.im (toD first_)), some (.im (toD second_)), none, none] (m_Curve_add self_ first_ second_)
  unfold m_Curve_add
  have ht_ := ((et_test (ev_op opx_isN mild_ok (ev_var (i := 1) (x := first_) rfl) ev_non)) : EvT K (W0 E) [some (.im (toD self_)), some (.im (toD first_)), some (.im (toD second_)), none, none] _ _); replace ht_ : EvT K (W0 E) [some (.im (toD self_)), some (.im (toD first_)), some (.im (toD second_)), none, none] _ ((Res.ok (toD first_).isNon)) := ht_
  refine blk_seq (blk_if2 L trivial ht_ ?_ ?_)
  · have hr_ := ((ev_var (i := 2) (x := second_) rfl) : EvX K (W0 E) [some (.im (toD self_)), some (.im (toD first_)), some (.im (toD second_)), none, none] _ _); replace hr_ : EvX K (W0 E) [some (.im (toD self_)), some (.im (toD first_)), some (.im (toD second_)), none, none] _ (Res.ok second_ : Res (Option (T2 Int Int))) := hr_
    exact blk_ret L trivial hr_
  · refine blk_nil ?_
    try refine Blk.nx ?_
    have ht_ := ((et_test (ev_op opx_isN mild_ok (ev_var (i := 2) (x := second_) rfl) ev_non)) : EvT K (W0 E) [some (.im (toD self_)), some (.im (toD first_)), some (.im (toD second_)), none, none] _ _); replace ht_ : EvT K (W0 E) [some (.im (toD self_)), some (.im (toD first_)), some (.im (toD second_)), none, none] _ ((Res.ok (toD second_).isNon)) := ht_
    refine blk_seq (blk_if2 L trivial ht_ ?_ ?_)
    · have hr_ := ((ev_var (i := 1) (x := first_) rfl) : EvX K (W0 E) [some (.im (toD self_)), some (.im (toD first_)), some (.im (toD second_)), none, none] _ _); replace hr_ : EvX K (W0 E) [some (.im (toD self_)), some (.im (toD first_)), some (.im (toD second_)), none, none] _ (Res.ok first_ : Res (Option (T2 Int Int))) := hr_
      exact blk_ret L trivial hr_
    · refine blk_nil ?_
      try refine Blk.nx ?_
      have ht_ := ((et_test (ev_op opx_eqD mild_need (ev_var (i := 2) (x := second_) rfl) (ev_meth (c := "Curve") (m := "negate") (ks := ["prime", "a", "b"]) (f := (fun (p : O_Curve × (Option (T2 Int Int)) × Unit) => m_Curve_negate p.1 p.2.1)) (ev_var (i := 0) (x := self_) rfl) (ea_cons (ev_var (i := 1) (x := first_) rfl) ea_nil) (by decide +kernel) (fun _ => ⟨_, rfl⟩)))) : EvT K (W0 E) [some (.im (toD self_)), some (.im (toD first_)), some (.im (toD second_)), none, none] _ _); replace ht_ : EvT K (W0 E) [some (.im (toD self_)), some (.im (toD first_)), some (.im (toD second_)), none, none] _ ((m_Curve_negate self_ first_).bind fun (t61 : (Option (T2 Int Int))) => Res.need ((toD second_).okq = true ∧ (toD t61).okq = true) (Res.ok (pyEq (toD second_) (toD t61)))) := ht_
      refine blk_seq (blk_if2 L trivial ht_ ?_ ?_)
      · have hr_ := ((ev_noneO (α := (T2 Int Int))) : EvX K (W0 E) [some (.im (toD self_)), some (.im (toD first_)), some (.im (toD second_)), none, none] _ _); replace hr_ : EvX K (W0 E) [some (.im (toD self_)), some (.im (toD first_)), some (.im (toD second_)), none, none] _ (Res.ok (none : (Option (T2 Int Int))) : Res (Option (T2 Int Int))) := hr_
        exact blk_ret L trivial hr_
      · refine blk_nil ?_
        try refine Blk.nx ?_
        have hs_ := ((ev_meth (c := "Curve") (m := "_slope") (ks := ["prime", "a", "b"]) (f := (fun (p : O_Curve × (T2 Int Int) × (T2 Int Int) × Unit) => m_Curve_u_slope p.1 p.2.1 p.2.2.1)) (ev_var (i := 0) (x := self_) rfl) (ea_cons (ev_castG (f := optGet) optGet_ok optGet_x (ev_var (i := 1) (x := first_) rfl)) (ea_cons (ev_castG (f := optGet) optGet_ok optGet_x (ev_var (i := 2) (x := second_) rfl)) ea_nil)) (by decide +kernel) (fun _ => ⟨_, rfl⟩)) : EvX K (W0 E) [some (.im (toD self_)), some (.im (toD first_)), some (.im (toD second_)), none, none] _ _); replace hs_ : EvX K (W0 E) [some (.im (toD self_)), some (.im (toD first_)), some (.im (toD second_)), none, none] _ (((((Res.ok first_)).bind optGet).bind fun a65 => ((((Res.ok second_)).bind optGet).bind fun a63 => Res.ok (a63, ())).bind fun a66 => Res.ok (a65, a66)).bind fun p67 => m_Curve_u_slope self_ p67.1 p67.2.1) := hs_
        refine blk_seq (blk_set (i := 3) L trivial hs_ fun slope_ => ?_)
        show Blk _ _ _ _ _ [some (.im (toD self_)), some (.im (toD first_)), some (.im (toD second_)), some (.im (toD slope_)), none] _
        try refine Blk.nx ?_
        have hs_ := ((ev_op (opx_I (C := (fun _ j => 0 < j)) (g := fun i j => i % j)) mild_need (ev_op (opx_I0 (g := fun i j => i - j)) mild_ok (ev_op (opx_I0 (g := fun i j => i - j)) mild_ok (ev_op (opx_I (C := CPowX) (g := fun i j => i ^ j.toNat)) mild_need (ev_var (i := 3) (x := slope_) rfl) (ev_int (i := 2))) (ev_ixTC (i := 0) (f := fun x => x.a) (ev_castG (f := optGet) optGet_ok optGet_x (ev_var (i := 1) (x := first_) rfl)) (fun x => ⟨_, rfl, rfl⟩))) (ev_ixTC (i := 0) (f := fun x => x.a) (ev_castG (f := optGet) optGet_ok optGet_x (ev_var (i := 2) (x := second_) rfl)) (fun x => ⟨_, rfl, rfl⟩))) (ev_fld (g := fun (x : O_Curve) => x.f_prime) (c := "Curve") (ks := ["prime", "a", "b"]) (j := 0) (ev_var (i := 0) (x := self_) rfl) T.cl_Curve T.nf_Curve_prime (by decide +kernel) (fun _ => ⟨_, rfl, rfl⟩))) : EvX K (W0 E) [some (.im (toD self_)), some (.im (toD first_)), some (.im (toD second_)), some (.im (toD slope_)), none] _ _); replace hs_ : EvX K (W0 E) [some (.im (toD self_)), some (.im (toD first_)), some (.im (toD second_)), some (.im (toD slope_)), none] _ ((((Res.need (CPowX slope_ (2 : Int)) (Res.ok (slope_ ^ (2 : Int).toNat))).bind fun (t69 : Int) => ((((Res.ok first_)).bind optGet).bind fun (t68 : (T2 Int Int)) => Res.ok t68.a).bind fun (t70 : Int) => Res.ok (t69 - t70)).bind fun (t72 : Int) => ((((Res.ok second_)).bind optGet).bind fun (t71 : (T2 Int Int)) => Res.ok t71.a).bind fun (t73 : Int) => Res.ok (t72 - t73)).bind fun (t74 : Int) => Res.need (0 < self_.f_prime) (Res.ok (t74 % self_.f_prime))) := hs_
        refine blk_seq (blk_set (i := 4) L trivial hs_ fun x_ => ?_)
        show Blk _ _ _ _ _ [some (.im (toD self_)), some (.im (toD first_)), some (.im (toD second_)), some (.im (toD slope_)), some (.im (toD x_))] _
        try refine Blk.nx ?_
        have hr_ := ((ev_as (ev_tup (f := (fun y => T2.mk y.1 y.2.1)) (ea_cons (ev_var (i := 4) (x := x_) rfl) (ea_cons (ev_op (opx_I (C := (fun _ j => 0 < j)) (g := fun i j => i % j)) mild_need (ev_op (opx_I0 (g := fun i j => i - j)) mild_ok (ev_op (opx_I (C := CMulX) (g := fun i j => i * j)) mild_need (ev_var (i := 3) (x := slope_) rfl) (ev_op (opx_I0 (g := fun i j => i - j)) mild_ok (ev_ixTC (i := 0) (f := fun x => x.a) (ev_castG (f := optGet) optGet_ok optGet_x (ev_var (i := 1) (x := first_) rfl)) (fun x => ⟨_, rfl, rfl⟩)) (ev_var (i := 4) (x := x_) rfl))) (ev_ixTC (i := 1) (f := fun x => x.b) (ev_castG (f := optGet) optGet_ok optGet_x (ev_var (i := 1) (x := first_) rfl)) (fun x => ⟨_, rfl, rfl⟩))) (ev_fld (g := fun (x : O_Curve) => x.f_prime) (c := "Curve") (ks := ["prime", "a", "b"]) (j := 0) (ev_var (i := 0) (x := self_) rfl) T.cl_Curve T.nf_Curve_prime (by decide +kernel) (fun _ => ⟨_, rfl, rfl⟩))) ea_nil)) (fun _ => rfl) (fun _ => by show 2 ≤ 100000; decide)) some (fun _ => rfl) rfl) : EvX K (W0 E) [some (.im (toD self_)), some (.im (toD first_)), some (.im (toD second_)), some (.im (toD slope_)), some (.im (toD x_))] _ _); replace hr_ : EvX K (W0 E) [some (.im (toD self_)), some (.im (toD first_)), some (.im (toD second_)), some (.im (toD slope_)), some (.im (toD x_))] _ ((((((((((((Res.ok first_)).bind optGet).bind fun (t75 : (T2 Int Int)) => Res.ok t75.a).bind fun (t76 : Int) => Res.ok (t76 - x_)).bind fun (t77 : Int) => Res.need (CMulX slope_ t77) (Res.ok (slope_ * t77))).bind fun (t79 : Int) => ((((Res.ok first_)).bind optGet).bind fun (t78 : (T2 Int Int)) => Res.ok t78.b).bind fun (t80 : Int) => Res.ok (t79 - t80)).bind fun (t81 : Int) => Res.need (0 < self_.f_prime) (Res.ok (t81 % self_.f_prime))).bind fun a82 => Res.ok (a82, ())).bind fun a85 => Res.ok (x_, a85)).bind fun p86 => Res.ok (T2.mk p86.1 p86.2.1)).bind fun (x : (T2 Int Int)) => Res.ok (some x)) := hr_
        exact blk_ret L trivial hr_
noncomputable def m_Group_add (self_ : O_Group) (first_ : (Option (T2 Int Int))) (second_ : (Option (T2 Int Int))) : Res (Option (T2 Int Int)) :=
  m_Curve_add self_.f_curve first_ second_
theorem ok_Group_add {P : Program} {w : World} {K : PySem.W.Frag} {mg : Str → Option Value} {base : Heap} (T : Facts P w K mg) {fd : FuncData} (F : FnP K "add" "Group.add" s_Group_add (He.ma K (He.ga K "Group") "add") fd) :
    FnOk P w K mg base (L2.CX P w) 5 (He.ma K (He.ga K "Group") "add") fd ["self", "first", "second"] (spM K (fun (p : O_Group × (Option (T2 Int Int)) × (Option (T2 Int Int)) × Unit) => m_Group_add p.1 p.2.1 p.2.2.1)) := by
  obtain ⟨fd_Curve_add, F_Curve_add⟩ := T.d_Curve_add
  have G_Curve_add := ok_Curve_add (P := P) (w := w) (base := base) T F_Curve_add
  have b_Curve_add : Binds K fd_Curve_add ["self", "first", "second"] [] := F_Curve_add.bindsN fun _ _ _ _ _ _ us hl => match us, hl with | [_, _, _], _ => rfl
  refine fn_ok F sc_Group_add (fun y => rfl) (fun cdv A outer s H E hr => ?_)
  refine ⟨_, (pss_one (ps_ret (pe_methQ (pe_fld (pv 0) rfl) T.cl_Curve T.mt_Curve_add G_Curve_add (hr.mono (by decide)) b_Curve_add (fun σ => passAt (takes_of rfl rfl rfl rfl) σ) (pa_cons (pv 1) (pa_cons (pv 2) pa_nil))))), ?_⟩
  rintro ⟨self_, first_, second_, ⟨⟩⟩ F0 H0 Q KP L
  show Blk K F0 H0 KP _ [some (.im (toD self_)), some (.im (toD first_)), some (.im (toD second_))] (m_Group_add self_ first_ second_)
  unfold m_Group_add
  have hr_ := ((ev_meth (c := "Curve") (m := "add") (ks := ["prime", "a", "b"]) (f := (fun (p : O_Curve × (Option (T2 Int Int)) × (Option (T2 Int Int)) × Unit) => m_Curve_add p.1 p.2.1 p.2.2.1)) (ev_fld (g := fun (x : O_Group) => x.f_curve) (c := "Group") (ks := ["name", "kind", "curve", "prime", "base", "order", "cofactor", "size", "order_size"]) (j := 2) (ev_var (i := 0) (x := self_) rfl) T.cl_Group T.nf_Group_curve (by decide +kernel) (fun _ => ⟨_, rfl, rfl⟩)) (ea_cons (ev_var (i := 1) (x := first_) rfl) (ea_cons (ev_var (i := 2) (x := second_) rfl) ea_nil)) (by decide +kernel) (fun _ => ⟨_, rfl⟩)) : EvX K (W0 E) [some (.im (toD self_)), some (.im (toD first_)), some (.im (toD second_))] _ _); replace hr_ : EvX K (W0 E) [some (.im (toD self_)), some (.im (toD first_)), some (.im (toD second_))] _ (m_Curve_add self_.f_curve first_ second_) := hr_
  exact blk_ret L trivial hr_
noncomputable def m_EdwardsGroup_add (self_ : O_EdwardsGroup) (first_ : (T2 Int Int)) (second_ : (T2 Int Int)) : Res (T2 Int Int) :=
  m_EdwardsCurve_add self_.f_curve first_ second_
theorem ok_EdwardsGroup_add {P : Program} {w : World} {K : PySem.W.Frag} {mg : Str → Option Value} {base : Heap} (T : Facts P w K mg) {fd : FuncData} (F : FnP K "add" "EdwardsGroup.add" s_EdwardsGroup_add (He.ma K (He.ga K "EdwardsGroup") "add") fd) :
    FnOk P w K mg base (L2.CX P w) 4 (He.ma K (He.ga K "EdwardsGroup") "add") fd ["self", "first", "second"] (spM K (fun (p : O_EdwardsGroup × (T2 Int Int) × (T2 Int Int) × Unit) => m_EdwardsGroup_add p.1 p.2.1 p.2.2.1)) := by
  obtain ⟨fd_EdwardsCurve_add, F_EdwardsCurve_add⟩ := T.d_EdwardsCurve_add
  have G_EdwardsCurve_add := ok_EdwardsCurve_add (P := P) (w := w) (base := base) T F_EdwardsCurve_add
  have b_EdwardsCurve_add : Binds K fd_EdwardsCurve_add ["self", "first", "second"] [] := F_EdwardsCurve_add.bindsN fun _ _ _ _ _ _ us hl => match us, hl with | [_, _, _], _ => rfl
  refine fn_ok F sc_EdwardsGroup_add (fun y => rfl) (fun cdv A outer s H E hr => ?_)
  refine ⟨_, (pss_one (ps_ret (pe_methQ (pe_fld (pv 0) rfl) T.cl_EdwardsCurve T.mt_EdwardsCurve_add G_EdwardsCurve_add (hr.mono (by decide)) b_EdwardsCurve_add (fun σ => passAt (takes_of rfl rfl rfl rfl) σ) (pa_cons (pv 1) (pa_cons (pv 2) pa_nil))))), ?_⟩
  rintro ⟨self_, first_, second_, ⟨⟩⟩ F0 H0 Q KP L
  show Blk K F0 H0 KP _ [some (.im (toD self_)), some (.im (toD first_)), some (.im (toD second_))] (m_EdwardsGroup_add self_ first_ second_)
  unfold m_EdwardsGroup_add
  have hr_ := ((ev_meth (c := "EdwardsCurve") (m := "add") (ks := ["prime", "a", "d"]) (f := (fun (p : O_EdwardsCurve × (T2 Int Int) × (T2 Int Int) × Unit) => m_EdwardsCurve_add p.1 p.2.1 p.2.2.1)) (ev_fld (g := fun (x : O_EdwardsGroup) => x.f_curve) (c := "EdwardsGroup") (ks := ["name", "kind", "curve", "prime", "base", "order", "cofactor", "size", "order_size"]) (j := 2) (ev_var (i := 0) (x := self_) rfl) T.cl_EdwardsGroup T.nf_EdwardsGroup_curve (by decide +kernel) (fun _ => ⟨_, rfl, rfl⟩)) (ea_cons (ev_var (i := 1) (x := first_) rfl) (ea_cons (ev_var (i := 2) (x := second_) rfl) ea_nil)) (by decide +kernel) (fun _ => ⟨_, rfl⟩)) : EvX K (W0 E) [some (.im (toD self_)), some (.im (toD first_)), some (.im (toD second_))] _ _); replace hr_ : EvX K (W0 E) [some (.im (toD self_)), some (.im (toD first_)), some (.im (toD second_))] _ (m_EdwardsCurve_add self_.f_curve first_ second_) := hr_
  exact blk_ret L trivial hr_
noncomputable def m_multiply_by_bits_k3 (curve_ : O_Curve) (doubled_ : (Option (T2 Int Int))) (rest_ : Int) (g2 : (Option (T2 Int Int)) × (Option (T2 Int Int)) × Int → Res (Option (T2 Int Int))) : (Option (T2 Int Int)) → Res (Option (T2 Int Int)) := fun result_ =>   (m_Curve_add curve_ doubled_ doubled_).bind fun (doubled_ : (Option (T2 Int Int))) =>   ((Res.ok (rest_ / 2 ^ (1 : Int).toNat))).bind fun (rest_ : Int) =>   g2 (result_, doubled_, rest_)
noncomputable def m_multiply_by_bits_w2 (curve_ : O_Curve) (k2 : (Option (T2 Int Int)) × (Option (T2 Int Int)) × Int → Res (Option (T2 Int Int))) : Nat → (Option (T2 Int Int)) × (Option (T2 Int Int)) × Int → Res (Option (T2 Int Int))
  | 0, _ => Res.stuck
  | n2 + 1, (result_, doubled_, rest_) => ((Res.ok (decide ((0 : Int) < rest_)))).bind fun b => cond b   (((Res.ok (decide ((Builtin.bitAnd rest_ (1 : Int)) = (1 : Int))))).bind fun b => cond b   ((m_Curve_add curve_ result_ doubled_).bind fun (result_ : (Option (T2 Int Int))) =>   (m_multiply_by_bits_k3 curve_ doubled_ rest_ (m_multiply_by_bits_w2 curve_ k2 n2)) result_)   ((m_multiply_by_bits_k3 curve_ doubled_ rest_ (m_multiply_by_bits_w2 curve_ k2 n2)) result_))   (k2 (result_, doubled_, rest_))
noncomputable def m_multiply_by_bits_k4 : (Option (T2 Int Int)) × (Option (T2 Int Int)) × Int → Res (Option (T2 Int Int)) := fun (result_, doubled_, rest_) =>   (Res.ok result_)
noncomputable def m_multiply_by_bits_b (rec_ : O_Curve → (Option (T2 Int Int)) → Int → (Option (T2 Int Int)) → Res (Option (T2 Int Int))) (curve_ : O_Curve) (neutral_ : (Option (T2 Int Int))) (factor_ : Int) (point_ : (Option (T2 Int Int))) : Res (Option (T2 Int Int)) :=
  ((Res.ok (decide (factor_ < (0 : Int))))).bind fun b => cond b   ((((((m_Curve_negate curve_ point_).bind fun a90 => Res.ok (a90, ())).bind fun a93 => Res.ok ((-factor_), a93)).bind fun a95 => Res.ok (neutral_, a95)).bind fun a97 => Res.ok (curve_, a97)).bind fun p98 => rec_ p98.1 p98.2.1 p98.2.2.1 p98.2.2.2.1)   (((Res.ok neutral_)).bind fun (result_ : (Option (T2 Int Int))) =>   ((Res.ok point_)).bind fun (doubled_ : (Option (T2 Int Int))) =>   ((Res.ok factor_)).bind fun (rest_ : Int) =>   m_multiply_by_bits_w2 curve_ (m_multiply_by_bits_k4) (rest_.toNat + 1) (result_, doubled_, rest_))
noncomputable def m_multiply_by_bits : Nat → O_Curve → (Option (T2 Int Int)) → Int → (Option (T2 Int Int)) → Res (Option (T2 Int Int))
  | 0, _, _, _, _ => Res.stuck
  | n_ + 1, curve_, neutral_, factor_, point_ => m_multiply_by_bits_b (m_multiply_by_bits n_) curve_ neutral_ factor_ point_
theorem ok_multiply_by_bits {P : Program} {w : World} {K : PySem.W.Frag} {mg : Str → Option Value} {base : Heap} (T : Facts P w K mg) {fd : FuncData} (F : FnP K "multiply_by_bits" "multiply_by_bits" s_multiply_by_bits (He.ga K "multiply_by_bits") fd) : ∀ n_ : Nat,
    FnOk P w K mg base (L2.CX P w) (4 + n_) (He.ga K "multiply_by_bits") fd ["curve", "neutral", "factor", "point"] (spM K (fun (p : O_Curve × (Option (T2 Int Int)) × Int × (Option (T2 Int Int)) × Unit) => m_multiply_by_bits n_ p.1 p.2.1 p.2.2.1 p.2.2.2.1)) := by
  obtain ⟨fd_Curve_add, F_Curve_add⟩ := T.d_Curve_add
  have G_Curve_add := ok_Curve_add (P := P) (w := w) (base := base) T F_Curve_add
  have b_Curve_add : Binds K fd_Curve_add ["self", "first", "second"] [] := F_Curve_add.bindsN fun _ _ _ _ _ _ us hl => match us, hl with | [_, _, _], _ => rfl
  obtain ⟨fd_Curve_negate, F_Curve_negate⟩ := T.d_Curve_negate
  have G_Curve_negate := ok_Curve_negate (P := P) (w := w) (base := base) T F_Curve_negate
  have b_Curve_negate : Binds K fd_Curve_negate ["self", "point"] [] := F_Curve_negate.bindsN fun _ _ _ _ _ _ us hl => match us, hl with | [_, _], _ => rfl
  have b_multiply_by_bits : Binds K fd ["curve", "neutral", "factor", "point"] [] := F.bindsN fun _ _ _ _ _ _ us hl => match us, hl with | [_, _, _, _], _ => rfl
  have F_multiply_by_bits := F
  intro n_
  induction n_ with
  | zero => exact fnok_stuck _ (fun _ => rfl)
  | succ n_ G_multiply_by_bits =>
  refine fn_ok (k := 4 + n_) F sc_multiply_by_bits (fun y => rfl) (fun cdv A outer s H E hr => ?_)
  refine ⟨_, (pss_cons (ps_if (pt_cmpR op_lt (pv 2) pe_int (nomark _)) (pss_one (ps_ret (pe_callS G_multiply_by_bits (hr.mono (by omega)) rfl T.g_multiply_by_bits F_multiply_by_bits.kp b_multiply_by_bits (fun σ => passAt (takes_of rfl rfl rfl rfl) σ) (pa_cons (pv 0) (pa_cons (pv 1) (pa_cons (pe_un un_neg (pv 2)) (pa_cons (pe_methQ (pv 0) T.cl_Curve T.mt_Curve_negate G_Curve_negate (hr.mono (by omega)) b_Curve_negate (fun σ => passAt (takes_of rfl rfl rfl rfl) σ) (pa_cons (pv 3) pa_nil)) pa_nil))))))) pss_nil) (pss_cons (ps_set (i := 4) sc_multiply_by_bits.nd rfl (Or.inl rfl) (pv 1)) (pss_cons (ps_set (i := 5) sc_multiply_by_bits.nd rfl (Or.inl rfl) (pv 3)) (pss_cons (ps_set (i := 6) sc_multiply_by_bits.nd rfl (Or.inl rfl) (pv 2)) (pss_cons (ps_while (passes_of rfl) (pt_cmpR op_gt (pv 6) pe_int (nomark _)) (pss_cons (ps_if (pt_cmpR op_eq (pe_op op_and (pv 6) pe_int) pe_int (nomark _)) (pss_one (ps_set (i := 4) sc_multiply_by_bits.nd rfl (Or.inl rfl) (pe_methQ (pv 0) T.cl_Curve T.mt_Curve_add G_Curve_add (hr.mono (by omega)) b_Curve_add (fun σ => passAt (takes_of rfl rfl rfl rfl) σ) (pa_cons (pv 4) (pa_cons (pv 5) pa_nil))))) pss_nil) (pss_cons (ps_set (i := 5) sc_multiply_by_bits.nd rfl (Or.inl rfl) (pe_methQ (pv 0) T.cl_Curve T.mt_Curve_add G_Curve_add (hr.mono (by omega)) b_Curve_add (fun σ => passAt (takes_of rfl rfl rfl rfl) σ) (pa_cons (pv 5) (pa_cons (pv 5) pa_nil)))) (pss_one (ps_set (i := 6) sc_multiply_by_bits.nd rfl (Or.inl rfl) (pe_op op_shr (pv 6) pe_int)))))) (pss_one (ps_ret (pv 4)))))))), ?_⟩
  rintro ⟨curve_, neutral_, factor_, point_, ⟨⟩⟩ F0 H0 Q KP L
  show Blk K F0 H0 KP _ [some (.im (toD curve_)), some (.im (toD neutral_)), some (.im (toD factor_)), some (.im (toD point_)), none, none, none] (m_multiply_by_bits_b (m_multiply_by_bits n_) curve_ neutral_ factor_ point_)
  unfold m_multiply_by_bits_b
  have ht_ := ((et_test (ev_op (opx_B0 (g := fun i j => decide (i < j))) mild_ok (ev_var (i := 2) (x := factor_) rfl) (ev_int (i := 0)))) : EvT K (W0 E) [some (.im (toD curve_)), some (.im (toD neutral_)), some (.im (toD factor_)), some (.im (toD point_)), none, none, none] _ _); replace ht_ : EvT K (W0 E) [some (.im (toD curve_)), some (.im (toD neutral_)), some (.im (toD factor_)), some (.im (toD point_)), none, none, none] _ ((Res.ok (decide (factor_ < (0 : Int))))) := ht_
  refine blk_seq (blk_if2 L trivial ht_ ?_ ?_)
  · have hr_ := ((ev_call (f := (fun (p : O_Curve × (Option (T2 Int Int)) × Int × (Option (T2 Int Int)) × Unit) => (m_multiply_by_bits n_) p.1 p.2.1 p.2.2.1 p.2.2.2.1)) (ea_cons (ev_var (i := 0) (x := curve_) rfl) (ea_cons (ev_var (i := 1) (x := neutral_) rfl) (ea_cons (ev_un (g := fun i => -i) (ev_var (i := 2) (x := factor_) rfl)) (ea_cons (ev_meth (c := "Curve") (m := "negate") (ks := ["prime", "a", "b"]) (f := (fun (p : O_Curve × (Option (T2 Int Int)) × Unit) => m_Curve_negate p.1 p.2.1)) (ev_var (i := 0) (x := curve_) rfl) (ea_cons (ev_var (i := 3) (x := point_) rfl) ea_nil) (by decide +kernel) (fun _ => ⟨_, rfl⟩)) ea_nil))))) : EvX K (W0 E) [some (.im (toD curve_)), some (.im (toD neutral_)), some (.im (toD factor_)), some (.im (toD point_)), none, none, none] _ _); replace hr_ : EvX K (W0 E) [some (.im (toD curve_)), some (.im (toD neutral_)), some (.im (toD factor_)), some (.im (toD point_)), none, none, none] _ ((((((m_Curve_negate curve_ point_).bind fun a90 => Res.ok (a90, ())).bind fun a93 => Res.ok ((-factor_), a93)).bind fun a95 => Res.ok (neutral_, a95)).bind fun a97 => Res.ok (curve_, a97)).bind fun p98 => (m_multiply_by_bits n_) p98.1 p98.2.1 p98.2.2.1 p98.2.2.2.1) := hr_
    exact blk_ret L trivial hr_
  · refine blk_nil ?_
    try refine Blk.nx ?_
    have hs_ := ((ev_var (i := 1) (x := neutral_) rfl) : EvX K (W0 E) [some (.im (toD curve_)), some (.im (toD neutral_)), some (.im (toD factor_)), some (.im (toD point_)), none, none, none] _ _); replace hs_ : EvX K (W0 E) [some (.im (toD curve_)), some (.im (toD neutral_)), some (.im (toD factor_)), some (.im (toD point_)), none, none, none] _ (Res.ok neutral_ : Res (Option (T2 Int Int))) := hs_
    refine blk_seq (blk_set (i := 4) L trivial hs_ fun result_ => ?_)
    show Blk _ _ _ _ _ [some (.im (toD curve_)), some (.im (toD neutral_)), some (.im (toD factor_)), some (.im (toD point_)), some (.im (toD result_)), none, none] _
    try refine Blk.nx ?_
    have hs_ := ((ev_var (i := 3) (x := point_) rfl) : EvX K (W0 E) [some (.im (toD curve_)), some (.im (toD neutral_)), some (.im (toD factor_)), some (.im (toD point_)), some (.im (toD result_)), none, none] _ _); replace hs_ : EvX K (W0 E) [some (.im (toD curve_)), some (.im (toD neutral_)), some (.im (toD factor_)), some (.im (toD point_)), some (.im (toD result_)), none, none] _ (Res.ok point_ : Res (Option (T2 Int Int))) := hs_
    refine blk_seq (blk_set (i := 5) L trivial hs_ fun doubled_ => ?_)
    show Blk _ _ _ _ _ [some (.im (toD curve_)), some (.im (toD neutral_)), some (.im (toD factor_)), some (.im (toD point_)), some (.im (toD result_)), some (.im (toD doubled_)), none] _
    try refine Blk.nx ?_
    have hs_ := ((ev_var (i := 2) (x := factor_) rfl) : EvX K (W0 E) [some (.im (toD curve_)), some (.im (toD neutral_)), some (.im (toD factor_)), some (.im (toD point_)), some (.im (toD result_)), some (.im (toD doubled_)), none] _ _); replace hs_ : EvX K (W0 E) [some (.im (toD curve_)), some (.im (toD neutral_)), some (.im (toD factor_)), some (.im (toD point_)), some (.im (toD result_)), some (.im (toD doubled_)), none] _ (Res.ok factor_ : Res Int) := hs_
    refine blk_seq (blk_set (i := 6) L trivial hs_ fun rest_ => ?_)
    show Blk _ _ _ _ _ [some (.im (toD curve_)), some (.im (toD neutral_)), some (.im (toD factor_)), some (.im (toD point_)), some (.im (toD result_)), some (.im (toD doubled_)), some (.im (toD rest_))] _
    try refine Blk.nx ?_
    refine blk_seq (blk_while (S := (Option (T2 Int Int)) × (Option (T2 Int Int)) × Int) (m_multiply_by_bits_w2 curve_ (m_multiply_by_bits_k4)) (fun (s : (Option (T2 Int Int)) × (Option (T2 Int Int)) × Int) => match s with | (result_, doubled_, rest_) => (Res.ok (decide ((0 : Int) < rest_)))) (fun n s => match s with | (result_, doubled_, rest_) => ((Res.ok (decide ((Builtin.bitAnd rest_ (1 : Int)) = (1 : Int))))).bind fun b => cond b   ((m_Curve_add curve_ result_ doubled_).bind fun (result_ : (Option (T2 Int Int))) =>   (m_multiply_by_bits_k3 curve_ doubled_ rest_ (m_multiply_by_bits_w2 curve_ (m_multiply_by_bits_k4) n)) result_)   ((m_multiply_by_bits_k3 curve_ doubled_ rest_ (m_multiply_by_bits_w2 curve_ (m_multiply_by_bits_k4) n)) result_)) (m_multiply_by_bits_k4) (fun (result_, doubled_, rest_) => [some (.im (toD curve_)), some (.im (toD neutral_)), some (.im (toD factor_)), some (.im (toD point_)), some (.im (toD result_)), some (.im (toD doubled_)), some (.im (toD rest_))]) (result_, doubled_, rest_) (rest_.toNat + 1) L ?_ (.same (.same (.same (.same (.same (.same (.same .nil))))))) ?_ (fun ⟨_, _, _⟩ => rfl) (fun _ ⟨_, _, _⟩ => rfl) ?_ ?_)
    · rintro ⟨result_, doubled_, rest_⟩
      exact trivial
    · rintro ⟨result_, doubled_, rest_⟩
      exact ((et_test (ev_op (opx_B0 (g := fun i j => decide (j < i))) mild_ok (ev_var (i := 6) (x := rest_) rfl) (ev_int (i := 0)))) : EvT K (W0 E) [some (.im (toD curve_)), some (.im (toD neutral_)), some (.im (toD factor_)), some (.im (toD point_)), some (.im (toD result_)), some (.im (toD doubled_)), some (.im (toD rest_))] _ _)
    · intro n2 s_ N_ hN2
      obtain ⟨result_, doubled_, rest_⟩ := s_
      show Blk _ _ _ _ _ [some (.im (toD curve_)), some (.im (toD neutral_)), some (.im (toD factor_)), some (.im (toD point_)), some (.im (toD result_)), some (.im (toD doubled_)), some (.im (toD rest_))] _
      have ht_ := ((et_test (ev_op opx_eqI mild_ok (ev_op (opx_I0 (g := Builtin.bitAnd)) mild_ok (ev_var (i := 6) (x := rest_) rfl) (ev_int (i := 1))) (ev_int (i := 1)))) : EvT K (W0 E) [some (.im (toD curve_)), some (.im (toD neutral_)), some (.im (toD factor_)), some (.im (toD point_)), some (.im (toD result_)), some (.im (toD doubled_)), some (.im (toD rest_))] _ _); replace ht_ : EvT K (W0 E) [some (.im (toD curve_)), some (.im (toD neutral_)), some (.im (toD factor_)), some (.im (toD point_)), some (.im (toD result_)), some (.im (toD doubled_)), some (.im (toD rest_))] _ ((Res.ok (decide ((Builtin.bitAnd rest_ (1 : Int)) = (1 : Int))))) := ht_
      refine blk_seq (blk_ifj (S := (Option (T2 Int Int))) (fun result_ => [some (.im (toD curve_)), some (.im (toD neutral_)), some (.im (toD factor_)), some (.im (toD point_)), some (.im (toD result_)), some (.im (toD doubled_)), some (.im (toD rest_))]) (m_multiply_by_bits_k3 curve_ doubled_ rest_ (m_multiply_by_bits_w2 curve_ (m_multiply_by_bits_k4) n2)) L trivial ht_ ?_ ?_ ?_)
      · intro result_
        show Blk _ _ _ _ _ [some (.im (toD curve_)), some (.im (toD neutral_)), some (.im (toD factor_)), some (.im (toD point_)), some (.im (toD result_)), some (.im (toD doubled_)), some (.im (toD rest_))] ((m_multiply_by_bits_k3 curve_ doubled_ rest_ (m_multiply_by_bits_w2 curve_ (m_multiply_by_bits_k4) n2)) result_)
        unfold m_multiply_by_bits_k3
        try refine Blk.nx ?_
        have hs_ := ((ev_meth (c := "Curve") (m := "add") (ks := ["prime", "a", "b"]) (f := (fun (p : O_Curve × (Option (T2 Int Int)) × (Option (T2 Int Int)) × Unit) => m_Curve_add p.1 p.2.1 p.2.2.1)) (ev_var (i := 0) (x := curve_) rfl) (ea_cons (ev_var (i := 5) (x := doubled_) rfl) (ea_cons (ev_var (i := 5) (x := doubled_) rfl) ea_nil)) (by decide +kernel) (fun _ => ⟨_, rfl⟩)) : EvX K (W0 E) [some (.im (toD curve_)), some (.im (toD neutral_)), some (.im (toD factor_)), some (.im (toD point_)), some (.im (toD result_)), some (.im (toD doubled_)), some (.im (toD rest_))] _ _); replace hs_ : EvX K (W0 E) [some (.im (toD curve_)), some (.im (toD neutral_)), some (.im (toD factor_)), some (.im (toD point_)), some (.im (toD result_)), some (.im (toD doubled_)), some (.im (toD rest_))] _ (m_Curve_add curve_ doubled_ doubled_) := hs_
        refine blk_seq (blk_set (i := 5) L trivial hs_ fun doubled_ => ?_)
        show Blk _ _ _ _ _ [some (.im (toD curve_)), some (.im (toD neutral_)), some (.im (toD factor_)), some (.im (toD point_)), some (.im (toD result_)), some (.im (toD doubled_)), some (.im (toD rest_))] _
        try refine Blk.nx ?_
        have hs_ := ((ev_opI (C := (fun _ j => 0 ≤ j)) (g := fun i j => i / 2 ^ j.toNat) (fun x y _ h => by cases h; (show (0 : Int) ≤ _; decide)) (ev_var (i := 6) (x := rest_) rfl) (ev_int (i := 1))) : EvX K (W0 E) [some (.im (toD curve_)), some (.im (toD neutral_)), some (.im (toD factor_)), some (.im (toD point_)), some (.im (toD result_)), some (.im (toD doubled_)), some (.im (toD rest_))] _ _); replace hs_ : EvX K (W0 E) [some (.im (toD curve_)), some (.im (toD neutral_)), some (.im (toD factor_)), some (.im (toD point_)), some (.im (toD result_)), some (.im (toD doubled_)), some (.im (toD rest_))] _ (Res.ok (rest_ / 2 ^ (1 : Int).toNat) : Res Int) := hs_
        refine blk_set (i := 6) L trivial hs_ fun rest_ => ?_
        show Blk _ _ _ _ _ [some (.im (toD curve_)), some (.im (toD neutral_)), some (.im (toD factor_)), some (.im (toD point_)), some (.im (toD result_)), some (.im (toD doubled_)), some (.im (toD rest_))] _
        try refine Blk.nx ?_
        exact (hN2 (result_, doubled_, rest_)).weak (.same (.same (.same (.same (.same (.same (.same .nil)))))))
      · intro hk3
        have hs_ := ((ev_meth (c := "Curve") (m := "add") (ks := ["prime", "a", "b"]) (f := (fun (p : O_Curve × (Option (T2 Int Int)) × (Option (T2 Int Int)) × Unit) => m_Curve_add p.1 p.2.1 p.2.2.1)) (ev_var (i := 0) (x := curve_) rfl) (ea_cons (ev_var (i := 4) (x := result_) rfl) (ea_cons (ev_var (i := 5) (x := doubled_) rfl) ea_nil)) (by decide +kernel) (fun _ => ⟨_, rfl⟩)) : EvX K (W0 E) [some (.im (toD curve_)), some (.im (toD neutral_)), some (.im (toD factor_)), some (.im (toD point_)), some (.im (toD result_)), some (.im (toD doubled_)), some (.im (toD rest_))] _ _); replace hs_ : EvX K (W0 E) [some (.im (toD curve_)), some (.im (toD neutral_)), some (.im (toD factor_)), some (.im (toD point_)), some (.im (toD result_)), some (.im (toD doubled_)), some (.im (toD rest_))] _ (m_Curve_add curve_ result_ doubled_) := hs_
        refine blk_set (i := 4) L trivial hs_ fun result_ => ?_
        show Blk _ _ _ _ _ [some (.im (toD curve_)), some (.im (toD neutral_)), some (.im (toD factor_)), some (.im (toD point_)), some (.im (toD result_)), some (.im (toD doubled_)), some (.im (toD rest_))] _
        try refine Blk.nx ?_
        exact (hk3 result_).weak (.same (.same (.same (.same (.same (.same (.same .nil)))))))
      · intro hk3
        refine blk_nil ?_
        try refine Blk.nx ?_
        exact (hk3 result_).weak (.same (.same (.same (.same (.same (.same (.same .nil)))))))
    · rintro ⟨result_, doubled_, rest_⟩
      show Blk _ _ _ _ _ [some (.im (toD curve_)), some (.im (toD neutral_)), some (.im (toD factor_)), some (.im (toD point_)), some (.im (toD result_)), some (.im (toD doubled_)), some (.im (toD rest_))] ((m_multiply_by_bits_k4) (result_, doubled_, rest_))
      unfold m_multiply_by_bits_k4
      try refine Blk.nx ?_
      have hr_ := ((ev_var (i := 4) (x := result_) rfl) : EvX K (W0 E) [some (.im (toD curve_)), some (.im (toD neutral_)), some (.im (toD factor_)), some (.im (toD point_)), some (.im (toD result_)), some (.im (toD doubled_)), some (.im (toD rest_))] _ _); replace hr_ : EvX K (W0 E) [some (.im (toD curve_)), some (.im (toD neutral_)), some (.im (toD factor_)), some (.im (toD point_)), some (.im (toD result_)), some (.im (toD doubled_)), some (.im (toD rest_))] _ (Res.ok result_ : Res (Option (T2 Int Int))) := hr_
      exact blk_ret L trivial hr_
noncomputable def m_is_whole (value_ : D) : Res Bool :=
  (Res.need ((toD value_).plain = true) (Res.ok (isI "int" (toD value_)))).bind fun b102 => cond b102 ((Res.need ((toD value_).plain = true) (Res.ok (isI "bool" (toD value_)))).bind fun (t101 : Bool) => Res.ok (!t101)) (Res.ok false)
theorem ok_is_whole {P : Program} {w : World} {K : PySem.W.Frag} {mg : Str → Option Value} {base : Heap} (T : Facts P w K mg) {fd : FuncData} (F : FnP K "is_whole" "is_whole" s_is_whole (He.ga K "is_whole") fd) :
    FnOk P w K mg base (L2.CX P w) 1 (He.ga K "is_whole") fd ["value"] (spM K (fun (p : D × Unit) => m_is_whole p.1)) := by
  refine fn_ok F sc_is_whole (fun y => rfl) (fun cdv A outer s H E hr => ?_)
  refine ⟨_, (pss_one (ps_ret (pe_and (pe_callB call_isi (by rfl) T.n_isinstance (by decide +kernel) (pa_cons (pv 0) (pa_cons (pe_bltn (v := .ty "int") (by rfl) T.n_int (by decide +kernel) rfl) pa_nil))) (pe_one (pe_not (pe_callB call_isi (by rfl) T.n_isinstance (by decide +kernel) (pa_cons (pv 0) (pa_cons (pe_bltn (v := .ty "bool") (by rfl) T.n_bool (by decide +kernel) rfl) pa_nil)))))))), ?_⟩
  rintro ⟨value_, ⟨⟩⟩ F0 H0 Q KP L
  show Blk K F0 H0 KP _ [some (.im (toD value_))] (m_is_whole value_)
  unfold m_is_whole
  have hr_ := ((ev_andV (ev_isi isi_int (ev_var (i := 0) (x := value_) rfl)) (ev_notV (ev_isi isi_bool (ev_var (i := 0) (x := value_) rfl)))) : EvX K (W0 E) [some (.im (toD value_))] _ _); replace hr_ : EvX K (W0 E) [some (.im (toD value_))] _ ((Res.need ((toD value_).plain = true) (Res.ok (isI "int" (toD value_)))).bind fun b102 => cond b102 ((Res.need ((toD value_).plain = true) (Res.ok (isI "bool" (toD value_)))).bind fun (t101 : Bool) => Res.ok (!t101)) (Res.ok false)) := hr_
  exact blk_ret L trivial hr_
noncomputable def m_is_residue (value_ : D) (modulus_ : Int) : Res Bool :=
  (m_is_whole value_).bind fun b104 => cond b104 ((((Res.ok value_)).bind D.asInt).bind fun (t103 : Int) => cond (decide ((0 : Int) ≤ t103)) (Res.ok (decide (t103 < modulus_))) (Res.ok false)) (Res.ok false)
theorem ok_is_residue {P : Program} {w : World} {K : PySem.W.Frag} {mg : Str → Option Value} {base : Heap} (T : Facts P w K mg) {fd : FuncData} (F : FnP K "is_residue" "is_residue" s_is_residue (He.ga K "is_residue") fd) :
    FnOk P w K mg base (L2.CX P w) 2 (He.ga K "is_residue") fd ["value", "modulus"] (spM K (fun (p : D × Int × Unit) => m_is_residue p.1 p.2.1)) := by
  obtain ⟨fd_is_whole, F_is_whole⟩ := T.d_is_whole
  have G_is_whole := ok_is_whole (P := P) (w := w) (base := base) T F_is_whole
  have b_is_whole : Binds K fd_is_whole ["value"] [] := F_is_whole.bindsN fun _ _ _ _ _ _ us hl => match us, hl with | [_], _ => rfl
  refine fn_ok F sc_is_residue (fun y => rfl) (fun cdv A outer s H E hr => ?_)
  refine ⟨_, (pss_one (ps_ret (pe_and (pe_callS G_is_whole (hr.mono (by decide)) rfl T.g_is_whole F_is_whole.kp b_is_whole (fun σ => passAt (takes_of rfl rfl rfl rfl) σ) (pa_cons (pv 0) pa_nil)) (pe_one (pe_chain op_le op_lt pe_int (pv 0) (pv 1)))))), ?_⟩
  rintro ⟨value_, modulus_, ⟨⟩⟩ F0 H0 Q KP L
  show Blk K F0 H0 KP _ [some (.im (toD value_)), some (.im (toD modulus_))] (m_is_residue value_ modulus_)
  unfold m_is_residue
  have hr_ := ((ev_andV (ev_call (f := (fun (p : D × Unit) => m_is_whole p.1)) (ea_cons (ev_var (i := 0) (x := value_) rfl) ea_nil)) (ev_chain (opx_B0 (g := fun i j => decide (i ≤ j))) mild_ok (opx_B0 (g := fun i j => decide (i < j))) mild_ok (ev_int (i := 0)) (ev_cast (f := D.asInt) asInt_ok asInt_x (ev_var (i := 0) (x := value_) rfl)) (ev_var (i := 1) (x := modulus_) rfl))) : EvX K (W0 E) [some (.im (toD value_)), some (.im (toD modulus_))] _ _); replace hr_ : EvX K (W0 E) [some (.im (toD value_)), some (.im (toD modulus_))] _ ((m_is_whole value_).bind fun b104 => cond b104 ((((Res.ok value_)).bind D.asInt).bind fun (t103 : Int) => cond (decide ((0 : Int) ≤ t103)) (Res.ok (decide (t103 < modulus_))) (Res.ok false)) (Res.ok false)) := hr_
  exact blk_ret L trivial hr_
noncomputable def m_is_residue_pair (value_ : D) (modulus_ : Int) : Res Bool :=
  (Res.need ((toD value_).plain = true) (Res.ok (isI "tuple" (toD value_)))).bind fun b114 => cond b114 (((((Res.ok value_)).bind fun (t105 : D) => D.lenR t105).bind fun (t106 : Int) => Res.ok (decide (t106 = (2 : Int)))).bind fun b113 => cond b113 (((((((Res.ok value_)).bind D.asTu).bind fun (t107 : (Tu D)) => Res.ok (t107).xs).bind fun (xs109 : List D) => Res.need (xs109.length ≤ 16777216) (compL (fun (x108 : D) => Res.ok true) (fun (x108 : D) => (m_is_residue x108 modulus_).noexc) xs109)).bind fun a110 => Res.ok (a110, ())).bind fun p112 => Res.ok ((p112.1).all id)) (Res.ok false)) (Res.ok false)
theorem ok_is_residue_pair {P : Program} {w : World} {K : PySem.W.Frag} {mg : Str → Option Value} {base : Heap} (T : Facts P w K mg) {fd : FuncData} (F : FnP K "is_residue_pair" "is_residue_pair" s_is_residue_pair (He.ga K "is_residue_pair") fd) :
    FnOk P w K mg base (L2.CX P w) 3 (He.ga K "is_residue_pair") fd ["value", "modulus"] (spM K (fun (p : D × Int × Unit) => m_is_residue_pair p.1 p.2.1)) := by
  obtain ⟨fd_is_residue, F_is_residue⟩ := T.d_is_residue
  have G_is_residue := ok_is_residue (P := P) (w := w) (base := base) T F_is_residue
  have b_is_residue : Binds K fd_is_residue ["value", "modulus"] [] := F_is_residue.bindsN fun _ _ _ _ _ _ us hl => match us, hl with | [_, _], _ => rfl
  refine fn_ok F sc_is_residue_pair (fun y => rfl) (fun cdv A outer s H E hr => ?_)
  refine ⟨_, (pss_one (ps_ret (pe_and (pe_callB call_isi (by rfl) T.n_isinstance (by decide +kernel) (pa_cons (pv 0) (pa_cons (pe_bltn (v := .ty "tuple") (by rfl) T.n_tuple (by decide +kernel) rfl) pa_nil))) (pe_and (pe_cmpR op_eq (pe_callB (cr_len rfl) (by rfl) T.n_len (by decide +kernel) (pa_cons (pv 0) pa_nil)) pe_int (nomark _)) (pe_one (pe_callB (cr_all rfl) (by rfl) T.n_all (by decide +kernel) (pa_cons (pe_lc (own := [("item", 2)]) rfl sc_is_residue_pair.nd (pi_tup (pv 0)) (blkOk_by (own := [("item", 2)]) (N := ["value", "modulus", "item"]) (sc := defScope s_is_residue_pair) (by decide +kernel)) (fun _ _ _ _ _ => (pg_name (i := 2) sc_is_residue_pair.nd rfl (Or.inl rfl))) (fun _ _ _ _ _ => pts_nil) (fun _ _ _ _ _ => (pe_call G_is_residue (hr.mono (by decide)) rfl T.g_is_residue F_is_residue.kp b_is_residue .nil passL (pa_cons (pv 2) (pa_cons (pv 1) pa_nil))))) pa_nil))))))), ?_⟩
  rintro ⟨value_, modulus_, ⟨⟩⟩ F0 H0 Q KP L
  show Blk K F0 H0 KP _ [some (.im (toD value_)), some (.im (toD modulus_)), none] (m_is_residue_pair value_ modulus_)
  unfold m_is_residue_pair
  have hr_ := ((ev_andV (ev_isi isi_tuple (ev_var (i := 0) (x := value_) rfl)) (ev_andV (ev_op opx_eqI mild_ok (ev_lenD (ev_var (i := 0) (x := value_) rfl)) (ev_int (i := 2))) (ev_cb cx_all (fun _ _ h => nomatch h) (ea_cons (ev_ofN (ev_comp (tst := fun (x108 : D) => Res.ok true) (el := fun (x108 : D) => (m_is_residue x108 modulus_).noexc) (ws := [2]) (ei_tup (ev_cast (f := D.asTu) asTu_ok asTu_x (ev_var (i := 0) (x := value_) rfl))) (fun _ => gx_name) (fun x108 => et_yes) (fun x108 => ((ev_call0 (f := (fun (p : D × Int × Unit) => m_is_residue p.1 p.2.1)) (ea_cons (ev_var (i := 2) (x := x108) rfl) (ea_cons (ev_var (i := 1) (x := modulus_) rfl) ea_nil))) : EvX K WT [some (.im (toD value_)), some (.im (toD modulus_)), some (.im (toD x108))] _ _)))) ea_nil)))) : EvX K (W0 E) [some (.im (toD value_)), some (.im (toD modulus_)), none] _ _); replace hr_ : EvX K (W0 E) [some (.im (toD value_)), some (.im (toD modulus_)), none] _ ((Res.need ((toD value_).plain = true) (Res.ok (isI "tuple" (toD value_)))).bind fun b114 => cond b114 (((((Res.ok value_)).bind fun (t105 : D) => D.lenR t105).bind fun (t106 : Int) => Res.ok (decide (t106 = (2 : Int)))).bind fun b113 => cond b113 (((((((Res.ok value_)).bind D.asTu).bind fun (t107 : (Tu D)) => Res.ok (t107).xs).bind fun (xs109 : List D) => Res.need (xs109.length ≤ 16777216) (compL (fun (x108 : D) => Res.ok true) (fun (x108 : D) => (m_is_residue x108 modulus_).noexc) xs109)).bind fun a110 => Res.ok (a110, ())).bind fun p112 => Res.ok ((p112.1).all id)) (Res.ok false)) (Res.ok false)) := hr_
  exact blk_ret L trivial hr_
noncomputable def m_power_k2 (modulus_ : Int) (square_ : Int) (rest_ : Int) (g1 : Int × Int × Int → Res Int) : Int → Res Int := fun result_ =>   ((Res.need (CMulX square_ square_) (Res.ok (square_ * square_))).bind fun (t115 : Int) => Res.need (0 < modulus_) (Res.ok (t115 % modulus_))).bind fun (square_ : Int) =>   ((Res.ok (rest_ / 2 ^ (1 : Int).toNat))).bind fun (rest_ : Int) =>   g1 (result_, square_, rest_)
noncomputable def m_power_w1 (modulus_ : Int) (k1 : Int × Int × Int → Res Int) : Nat → Int × Int × Int → Res Int
  | 0, _ => Res.stuck
  | n1 + 1, (result_, square_, rest_) => ((Res.ok (decide ((0 : Int) < rest_)))).bind fun b => cond b   (((Res.ok (decide ((Builtin.bitAnd rest_ (1 : Int)) = (1 : Int))))).bind fun b => cond b   (((Res.need (CMulX result_ square_) (Res.ok (result_ * square_))).bind fun (t116 : Int) => Res.need (0 < modulus_) (Res.ok (t116 % modulus_))).bind fun (result_ : Int) =>   (m_power_k2 modulus_ square_ rest_ (m_power_w1 modulus_ k1 n1)) result_)   ((m_power_k2 modulus_ square_ rest_ (m_power_w1 modulus_ k1 n1)) result_))   (k1 (result_, square_, rest_))
noncomputable def m_power_k3 : Int × Int × Int → Res Int := fun (result_, square_, rest_) =>   (Res.ok result_)
noncomputable def m_power (a_ : Int) (exponent_ : Int) (modulus_ : Int) : Res Int :=
  (Res.need (0 < modulus_) (Res.ok ((1 : Int) % modulus_))).bind fun (result_ : Int) =>   (Res.need (0 < modulus_) (Res.ok (a_ % modulus_))).bind fun (square_ : Int) =>   ((Res.ok exponent_)).bind fun (rest_ : Int) =>   m_power_w1 modulus_ (m_power_k3) (rest_.toNat + 1) (result_, square_, rest_)
theorem ok_power {P : Program} {w : World} {K : PySem.W.Frag} {mg : Str → Option Value} {base : Heap} (T : Facts P w K mg) {fd : FuncData} (F : FnP K "power" "power" s_power (He.ga K "power") fd) :
    FnOk P w K mg base (L2.CX P w) 1 (He.ga K "power") fd ["a", "exponent", "modulus"] (spM K (fun (p : Int × Int × Int × Unit) => m_power p.1 p.2.1 p.2.2.1)) := by
  refine fn_ok F sc_power (fun y => rfl) (fun cdv A outer s H E hr => ?_)
  refine ⟨_, (pss_cons (ps_set (i := 3) sc_power.nd rfl (Or.inl rfl) (pe_op op_mod pe_int (pv 2))) (pss_cons (ps_set (i := 4) sc_power.nd rfl (Or.inl rfl) (pe_op op_mod (pv 0) (pv 2))) (pss_cons (ps_set (i := 5) sc_power.nd rfl (Or.inl rfl) (pv 1)) (pss_cons (ps_while (passes_of rfl) (pt_cmpR op_gt (pv 5) pe_int (nomark _)) (pss_cons (ps_if (pt_cmpR op_eq (pe_op op_and (pv 5) pe_int) pe_int (nomark _)) (pss_one (ps_set (i := 3) sc_power.nd rfl (Or.inl rfl) (pe_op op_mod (pe_op op_mulX (pv 3) (pv 4)) (pv 2)))) pss_nil) (pss_cons (ps_set (i := 4) sc_power.nd rfl (Or.inl rfl) (pe_op op_mod (pe_op op_mulX (pv 4) (pv 4)) (pv 2))) (pss_one (ps_set (i := 5) sc_power.nd rfl (Or.inl rfl) (pe_op op_shr (pv 5) pe_int)))))) (pss_one (ps_ret (pv 3))))))), ?_⟩
  rintro ⟨a_, exponent_, modulus_, ⟨⟩⟩ F0 H0 Q KP L
  show Blk K F0 H0 KP _ [some (.im (toD a_)), some (.im (toD exponent_)), some (.im (toD modulus_)), none, none, none] (m_power a_ exponent_ modulus_)
  unfold m_power
  have hs_ := ((ev_op (opx_I (C := (fun _ j => 0 < j)) (g := fun i j => i % j)) mild_need (ev_int (i := 1)) (ev_var (i := 2) (x := modulus_) rfl)) : EvX K (W0 E) [some (.im (toD a_)), some (.im (toD exponent_)), some (.im (toD modulus_)), none, none, none] _ _); replace hs_ : EvX K (W0 E) [some (.im (toD a_)), some (.im (toD exponent_)), some (.im (toD modulus_)), none, none, none] _ (Res.need (0 < modulus_) (Res.ok ((1 : Int) % modulus_))) := hs_
  refine blk_seq (blk_set (i := 3) L trivial hs_ fun result_ => ?_)
  show Blk _ _ _ _ _ [some (.im (toD a_)), some (.im (toD exponent_)), some (.im (toD modulus_)), some (.im (toD result_)), none, none] _
  try refine Blk.nx ?_
  have hs_ := ((ev_op (opx_I (C := (fun _ j => 0 < j)) (g := fun i j => i % j)) mild_need (ev_var (i := 0) (x := a_) rfl) (ev_var (i := 2) (x := modulus_) rfl)) : EvX K (W0 E) [some (.im (toD a_)), some (.im (toD exponent_)), some (.im (toD modulus_)), some (.im (toD result_)), none, none] _ _); replace hs_ : EvX K (W0 E) [some (.im (toD a_)), some (.im (toD exponent_)), some (.im (toD modulus_)), some (.im (toD result_)), none, none] _ (Res.need (0 < modulus_) (Res.ok (a_ % modulus_))) := hs_
  refine blk_seq (blk_set (i := 4) L trivial hs_ fun square_ => ?_)
  show Blk _ _ _ _ _ [some (.im (toD a_)), some (.im (toD exponent_)), some (.im (toD modulus_)), some (.im (toD result_)), some (.im (toD square_)), none] _
  try refine Blk.nx ?_
  have hs_ := ((ev_var (i := 1) (x := exponent_) rfl) : EvX K (W0 E) [some (.im (toD a_)), some (.im (toD exponent_)), some (.im (toD modulus_)), some (.im (toD result_)), some (.im (toD square_)), none] _ _); replace hs_ : EvX K (W0 E) [some (.im (toD a_)), some (.im (toD exponent_)), some (.im (toD modulus_)), some (.im (toD result_)), some (.im (toD square_)), none] _ (Res.ok exponent_ : Res Int) := hs_
  refine blk_seq (blk_set (i := 5) L trivial hs_ fun rest_ => ?_)
  show Blk _ _ _ _ _ [some (.im (toD a_)), some (.im (toD exponent_)), some (.im (toD modulus_)), some (.im (toD result_)), some (.im (toD square_)), some (.im (toD rest_))] _
  try refine Blk.nx ?_
  refine blk_seq (blk_while (S := Int × Int × Int) (m_power_w1 modulus_ (m_power_k3)) (fun (s : Int × Int × Int) => match s with | (result_, square_, rest_) => (Res.ok (decide ((0 : Int) < rest_)))) (fun n s => match s with | (result_, square_, rest_) => ((Res.ok (decide ((Builtin.bitAnd rest_ (1 : Int)) = (1 : Int))))).bind fun b => cond b   (((Res.need (CMulX result_ square_) (Res.ok (result_ * square_))).bind fun (t116 : Int) => Res.need (0 < modulus_) (Res.ok (t116 % modulus_))).bind fun (result_ : Int) =>   (m_power_k2 modulus_ square_ rest_ (m_power_w1 modulus_ (m_power_k3) n)) result_)   ((m_power_k2 modulus_ square_ rest_ (m_power_w1 modulus_ (m_power_k3) n)) result_)) (m_power_k3) (fun (result_, square_, rest_) => [some (.im (toD a_)), some (.im (toD exponent_)), some (.im (toD modulus_)), some (.im (toD result_)), some (.im (toD square_)), some (.im (toD rest_))]) (result_, square_, rest_) (rest_.toNat + 1) L ?_ (.same (.same (.same (.same (.same (.same .nil)))))) ?_ (fun ⟨_, _, _⟩ => rfl) (fun _ ⟨_, _, _⟩ => rfl) ?_ ?_)
  · rintro ⟨result_, square_, rest_⟩
    exact trivial
  · rintro ⟨result_, square_, rest_⟩
    exact ((et_test (ev_op (opx_B0 (g := fun i j => decide (j < i))) mild_ok (ev_var (i := 5) (x := rest_) rfl) (ev_int (i := 0)))) : EvT K (W0 E) [some (.im (toD a_)), some (.im (toD exponent_)), some (.im (toD modulus_)), some (.im (toD result_)), some (.im (toD square_)), some (.im (toD rest_))] _ _)
  · intro n1 s_ N_ hN1
    obtain ⟨result_, square_, rest_⟩ := s_
    show Blk _ _ _ _ _ [some (.im (toD a_)), some (.im (toD exponent_)), some (.im (toD modulus_)), some (.im (toD result_)), some (.im (toD square_)), some (.im (toD rest_))] _
    have ht_ := ((et_test (ev_op opx_eqI mild_ok (ev_op (opx_I0 (g := Builtin.bitAnd)) mild_ok (ev_var (i := 5) (x := rest_) rfl) (ev_int (i := 1))) (ev_int (i := 1)))) : EvT K (W0 E) [some (.im (toD a_)), some (.im (toD exponent_)), some (.im (toD modulus_)), some (.im (toD result_)), some (.im (toD square_)), some (.im (toD rest_))] _ _); replace ht_ : EvT K (W0 E) [some (.im (toD a_)), some (.im (toD exponent_)), some (.im (toD modulus_)), some (.im (toD result_)), some (.im (toD square_)), some (.im (toD rest_))] _ ((Res.ok (decide ((Builtin.bitAnd rest_ (1 : Int)) = (1 : Int))))) := ht_
    refine blk_seq (blk_ifj (S := Int) (fun result_ => [some (.im (toD a_)), some (.im (toD exponent_)), some (.im (toD modulus_)), some (.im (toD result_)), some (.im (toD square_)), some (.im (toD rest_))]) (m_power_k2 modulus_ square_ rest_ (m_power_w1 modulus_ (m_power_k3) n1)) L trivial ht_ ?_ ?_ ?_)
    · intro result_
      show Blk _ _ _ _ _ [some (.im (toD a_)), some (.im (toD exponent_)), some (.im (toD modulus_)), some (.im (toD result_)), some (.im (toD square_)), some (.im (toD rest_))] ((m_power_k2 modulus_ square_ rest_ (m_power_w1 modulus_ (m_power_k3) n1)) result_)
      unfold m_power_k2
      try refine Blk.nx ?_
      have hs_ := ((ev_op (opx_I (C := (fun _ j => 0 < j)) (g := fun i j => i % j)) mild_need (ev_op (opx_I (C := CMulX) (g := fun i j => i * j)) mild_need (ev_var (i := 4) (x := square_) rfl) (ev_var (i := 4) (x := square_) rfl)) (ev_var (i := 2) (x := modulus_) rfl)) : EvX K (W0 E) [some (.im (toD a_)), some (.im (toD exponent_)), some (.im (toD modulus_)), some (.im (toD result_)), some (.im (toD square_)), some (.im (toD rest_))] _ _); replace hs_ : EvX K (W0 E) [some (.im (toD a_)), some (.im (toD exponent_)), some (.im (toD modulus_)), some (.im (toD result_)), some (.im (toD square_)), some (.im (toD rest_))] _ ((Res.need (CMulX square_ square_) (Res.ok (square_ * square_))).bind fun (t115 : Int) => Res.need (0 < modulus_) (Res.ok (t115 % modulus_))) := hs_
      refine blk_seq (blk_set (i := 4) L trivial hs_ fun square_ => ?_)
      show Blk _ _ _ _ _ [some (.im (toD a_)), some (.im (toD exponent_)), some (.im (toD modulus_)), some (.im (toD result_)), some (.im (toD square_)), some (.im (toD rest_))] _
      try refine Blk.nx ?_
      have hs_ := ((ev_opI (C := (fun _ j => 0 ≤ j)) (g := fun i j => i / 2 ^ j.toNat) (fun x y _ h => by cases h; (show (0 : Int) ≤ _; decide)) (ev_var (i := 5) (x := rest_) rfl) (ev_int (i := 1))) : EvX K (W0 E) [some (.im (toD a_)), some (.im (toD exponent_)), some (.im (toD modulus_)), some (.im (toD result_)), some (.im (toD square_)), some (.im (toD rest_))] _ _); replace hs_ : EvX K (W0 E) [some (.im (toD a_)), some (.im (toD exponent_)), some (.im (toD modulus_)), some (.im (toD result_)), some (.im (toD square_)), some (.im (toD rest_))] _ (Res.ok (rest_ / 2 ^ (1 : Int).toNat) : Res Int) := hs_
      refine blk_set (i := 5) L trivial hs_ fun rest_ => ?_
      show Blk _ _ _ _ _ [some (.im (toD a_)), some (.im (toD exponent_)), some (.im (toD modulus_)), some (.im (toD result_)), some (.im (toD square_)), some (.im (toD rest_))] _
      try refine Blk.nx ?_
      exact (hN1 (result_, square_, rest_)).weak (.same (.same (.same (.same (.same (.same .nil))))))
    · intro hk2
      have hs_ := ((ev_op (opx_I (C := (fun _ j => 0 < j)) (g := fun i j => i % j)) mild_need (ev_op (opx_I (C := CMulX) (g := fun i j => i * j)) mild_need (ev_var (i := 3) (x := result_) rfl) (ev_var (i := 4) (x := square_) rfl)) (ev_var (i := 2) (x := modulus_) rfl)) : EvX K (W0 E) [some (.im (toD a_)), some (.im (toD exponent_)), some (.im (toD modulus_)), some (.im (toD result_)), some (.im (toD square_)), some (.im (toD rest_))] _ _); replace hs_ : EvX K (W0 E) [some (.im (toD a_)), some (.im (toD exponent_)), some (.im (toD modulus_)), some (.im (toD result_)), some (.im (toD square_)), some (.im (toD rest_))] _ ((Res.need (CMulX result_ square_) (Res.ok (result_ * square_))).bind fun (t116 : Int) => Res.need (0 < modulus_) (Res.ok (t116 % modulus_))) := hs_
      refine blk_set (i := 3) L trivial hs_ fun result_ => ?_
      show Blk _ _ _ _ _ [some (.im (toD a_)), some (.im (toD exponent_)), some (.im (toD modulus_)), some (.im (toD result_)), some (.im (toD square_)), some (.im (toD rest_))] _
      try refine Blk.nx ?_
      exact (hk2 result_).weak (.same (.same (.same (.same (.same (.same .nil))))))
    · intro hk2
      refine blk_nil ?_
      try refine Blk.nx ?_
      exact (hk2 result_).weak (.same (.same (.same (.same (.same (.same .nil))))))
  · rintro ⟨result_, square_, rest_⟩
    show Blk _ _ _ _ _ [some (.im (toD a_)), some (.im (toD exponent_)), some (.im (toD modulus_)), some (.im (toD result_)), some (.im (toD square_)), some (.im (toD rest_))] ((m_power_k3) (result_, square_, rest_))
    unfold m_power_k3
    try refine Blk.nx ?_
    have hr_ := ((ev_var (i := 3) (x := result_) rfl) : EvX K (W0 E) [some (.im (toD a_)), some (.im (toD exponent_)), some (.im (toD modulus_)), some (.im (toD result_)), some (.im (toD square_)), some (.im (toD rest_))] _ _); replace hr_ : EvX K (W0 E) [some (.im (toD a_)), some (.im (toD exponent_)), some (.im (toD modulus_)), some (.im (toD result_)), some (.im (toD square_)), some (.im (toD rest_))] _ (Res.ok result_ : Res Int) := hr_
    exact blk_ret L trivial hr_
noncomputable def m_square_class (a_ : Int) (prime_ : Int) : Res Int :=
  ((Res.need (0 < prime_) (Res.ok (a_ % prime_))).bind fun (t117 : Int) => Res.ok (decide (t117 = (0 : Int)))).bind fun b => cond b   ((Res.ok (0 : Int)))   (((m_power a_ ((prime_ - (1 : Int)) / (2 : Int)) prime_).bind fun (t118 : Int) => Res.ok (decide (t118 = (1 : Int)))).bind fun b => cond b   ((Res.ok (1 : Int)))   ((Res.ok (-(1 : Int)))))
theorem ok_square_class {P : Program} {w : World} {K : PySem.W.Frag} {mg : Str → Option Value} {base : Heap} (T : Facts P w K mg) {fd : FuncData} (F : FnP K "square_class" "square_class" s_square_class (He.ga K "square_class") fd) :
    FnOk P w K mg base (L2.CX P w) 2 (He.ga K "square_class") fd ["a", "prime"] (spM K (fun (p : Int × Int × Unit) => m_square_class p.1 p.2.1)) := by
  obtain ⟨fd_power, F_power⟩ := T.d_power
  have G_power := ok_power (P := P) (w := w) (base := base) T F_power
  have b_power : Binds K fd_power ["a", "exponent", "modulus"] [] := F_power.bindsN fun _ _ _ _ _ _ us hl => match us, hl with | [_, _, _], _ => rfl
  refine fn_ok F sc_square_class (fun y => rfl) (fun cdv A outer s H E hr => ?_)
  refine ⟨_, (pss_cons (ps_if (pt_cmpR op_eq (pe_op op_mod (pv 0) (pv 1)) pe_int (nomark _)) (pss_one (ps_ret pe_int)) pss_nil) (pss_cons (ps_if (pt_cmpR op_eq (pe_callS G_power (hr.mono (by decide)) rfl T.g_power F_power.kp b_power (fun σ => passAt (takes_of rfl rfl rfl rfl) σ) (pa_cons (pv 0) (pa_cons (pe_op op_fdiv (pe_op op_sub (pv 1) pe_int) pe_int) (pa_cons (pv 1) pa_nil)))) pe_int (nomark _)) (pss_one (ps_ret pe_int)) pss_nil) (pss_one (ps_ret (pe_un un_neg pe_int))))), ?_⟩
  rintro ⟨a_, prime_, ⟨⟩⟩ F0 H0 Q KP L
  show Blk K F0 H0 KP _ [some (.im (toD a_)), some (.im (toD prime_))] (m_square_class a_ prime_)
  unfold m_square_class
  have ht_ := ((et_test (ev_op opx_eqI mild_ok (ev_op (opx_I (C := (fun _ j => 0 < j)) (g := fun i j => i % j)) mild_need (ev_var (i := 0) (x := a_) rfl) (ev_var (i := 1) (x := prime_) rfl)) (ev_int (i := 0)))) : EvT K (W0 E) [some (.im (toD a_)), some (.im (toD prime_))] _ _); replace ht_ : EvT K (W0 E) [some (.im (toD a_)), some (.im (toD prime_))] _ ((Res.need (0 < prime_) (Res.ok (a_ % prime_))).bind fun (t117 : Int) => Res.ok (decide (t117 = (0 : Int)))) := ht_
  refine blk_seq (blk_if2 L trivial ht_ ?_ ?_)
  · have hr_ := ((ev_int (i := 0)) : EvX K (W0 E) [some (.im (toD a_)), some (.im (toD prime_))] _ _); replace hr_ : EvX K (W0 E) [some (.im (toD a_)), some (.im (toD prime_))] _ (Res.ok (0 : Int) : Res Int) := hr_
    exact blk_ret L trivial hr_
  · refine blk_nil ?_
    try refine Blk.nx ?_
    have ht_ := ((et_test (ev_op opx_eqI mild_ok (ev_call (f := (fun (p : Int × Int × Int × Unit) => m_power p.1 p.2.1 p.2.2.1)) (ea_cons (ev_var (i := 0) (x := a_) rfl) (ea_cons (ev_opI (C := CDiv) (g := fun i j => i / j) (fun x y _ h => by cases h; exact ⟨by decide, by decide⟩) (ev_op (opx_I0 (g := fun i j => i - j)) mild_ok (ev_var (i := 1) (x := prime_) rfl) (ev_int (i := 1))) (ev_int (i := 2))) (ea_cons (ev_var (i := 1) (x := prime_) rfl) ea_nil)))) (ev_int (i := 1)))) : EvT K (W0 E) [some (.im (toD a_)), some (.im (toD prime_))] _ _); replace ht_ : EvT K (W0 E) [some (.im (toD a_)), some (.im (toD prime_))] _ ((m_power a_ ((prime_ - (1 : Int)) / (2 : Int)) prime_).bind fun (t118 : Int) => Res.ok (decide (t118 = (1 : Int)))) := ht_
    refine blk_seq (blk_if2 L trivial ht_ ?_ ?_)
    · have hr_ := ((ev_int (i := 1)) : EvX K (W0 E) [some (.im (toD a_)), some (.im (toD prime_))] _ _); replace hr_ : EvX K (W0 E) [some (.im (toD a_)), some (.im (toD prime_))] _ (Res.ok (1 : Int) : Res Int) := hr_
      exact blk_ret L trivial hr_
    · refine blk_nil ?_
      try refine Blk.nx ?_
      have hr_ := ((ev_un (g := fun i => -i) (ev_int (i := 1))) : EvX K (W0 E) [some (.im (toD a_)), some (.im (toD prime_))] _ _); replace hr_ : EvX K (W0 E) [some (.im (toD a_)), some (.im (toD prime_))] _ (Res.ok (-(1 : Int)) : Res Int) := hr_
      exact blk_ret L trivial hr_
noncomputable def m_to_jacobian (point_ : (Option (T2 Int Int))) : Res (T3 Int Int Int) :=
  ((Res.ok (toD point_).isNon)).bind fun b => cond b   ((Res.ok k_INFINITY))   ((((((Res.ok point_)).bind optGet).bind fun (t119 : (T2 Int Int)) => Res.ok t119.a).bind fun a123 => (((((Res.ok point_)).bind optGet).bind fun (t120 : (T2 Int Int)) => Res.ok t120.b).bind fun a121 => Res.ok (a121, ((1 : Int), ()))).bind fun a124 => Res.ok (a123, a124)).bind fun p125 => Res.ok (T3.mk p125.1 p125.2.1 p125.2.2.1))
theorem ok_to_jacobian {P : Program} {w : World} {K : PySem.W.Frag} {mg : Str → Option Value} {base : Heap} (T : Facts P w K mg) {fd : FuncData} (F : FnP K "to_jacobian" "to_jacobian" s_to_jacobian (He.ga K "to_jacobian") fd) :
    FnOk P w K mg base (L2.CX P w) 1 (He.ga K "to_jacobian") fd ["point"] (spM K (fun (p : (Option (T2 Int Int)) × Unit) => m_to_jacobian p.1)) := by
  refine fn_ok F sc_to_jacobian (fun y => rfl) (fun cdv A outer s H E hr => ?_)
  refine ⟨_, (pss_cons (ps_if (pt_cmpR op_isN (pv 0) pe_non (nomark _)) (pss_one (ps_ret (pe_glob (v := T.c_INFINITY.v) rfl T.c_INFINITY.m T.c_INFINITY.r))) pss_nil) (pss_one (ps_ret (pe_tup (pa_cons (pe_ix (cr_ixT rfl) (pv 0) pe_int (fun _ _ => rfl)) (pa_cons (pe_ix (cr_ixT rfl) (pv 0) pe_int (fun _ _ => rfl)) (pa_cons pe_int pa_nil))))))), ?_⟩
  rintro ⟨point_, ⟨⟩⟩ F0 H0 Q KP L
  show Blk K F0 H0 KP _ [some (.im (toD point_))] (m_to_jacobian point_)
  unfold m_to_jacobian
  have ht_ := ((et_test (ev_op opx_isN mild_ok (ev_var (i := 0) (x := point_) rfl) ev_non)) : EvT K (W0 E) [some (.im (toD point_))] _ _); replace ht_ : EvT K (W0 E) [some (.im (toD point_))] _ ((Res.ok (toD point_).isNon)) := ht_
  refine blk_seq (blk_if2 L trivial ht_ ?_ ?_)
  · have hr_ := ((ev_con T.c_INFINITY) : EvX K (W0 E) [some (.im (toD point_))] _ _); replace hr_ : EvX K (W0 E) [some (.im (toD point_))] _ (Res.ok k_INFINITY : Res (T3 Int Int Int)) := hr_
    exact blk_ret L trivial hr_
  · refine blk_nil ?_
    try refine Blk.nx ?_
    have hr_ := ((ev_tup (f := (fun y => T3.mk y.1 y.2.1 y.2.2.1)) (ea_cons (ev_ixTC (i := 0) (f := fun x => x.a) (ev_castG (f := optGet) optGet_ok optGet_x (ev_var (i := 0) (x := point_) rfl)) (fun x => ⟨_, rfl, rfl⟩)) (ea_cons (ev_ixTC (i := 1) (f := fun x => x.b) (ev_castG (f := optGet) optGet_ok optGet_x (ev_var (i := 0) (x := point_) rfl)) (fun x => ⟨_, rfl, rfl⟩)) (ea_cons (ev_int (i := 1)) ea_nil))) (fun _ => rfl) (fun _ => by show 3 ≤ 100000; decide)) : EvX K (W0 E) [some (.im (toD point_))] _ _); replace hr_ : EvX K (W0 E) [some (.im (toD point_))] _ ((((((Res.ok point_)).bind optGet).bind fun (t119 : (T2 Int Int)) => Res.ok t119.a).bind fun a123 => (((((Res.ok point_)).bind optGet).bind fun (t120 : (T2 Int Int)) => Res.ok t120.b).bind fun a121 => Res.ok (a121, ((1 : Int), ()))).bind fun a124 => Res.ok (a123, a124)).bind fun p125 => Res.ok (T3.mk p125.1 p125.2.1 p125.2.2.1)) := hr_
    exact blk_ret L trivial hr_
noncomputable def m_from_jacobian (curve_ : O_Curve) (triple_ : (T3 Int Int Int)) : Res (Option (T2 Int Int)) :=
  ((Res.ok triple_)).bind fun (u126 : (T3 Int Int Int)) =>   (fun (x_ : Int) (y_ : Int) (z_ : Int) => ((Res.ok (decide (z_ = (0 : Int))))).bind fun b => cond b   ((Res.ok (none : (Option (T2 Int Int)))))   ((m_inverse z_ curve_.f_prime).bind fun (scale_ : Int) =>   ((Res.need (CMulX scale_ scale_) (Res.ok (scale_ * scale_))).bind fun (t127 : Int) => Res.need (0 < curve_.f_prime) (Res.ok (t127 % curve_.f_prime))).bind fun (square_ : Int) =>   ((((Res.need (CMulX x_ square_) (Res.ok (x_ * square_))).bind fun (t128 : Int) => Res.need (0 < curve_.f_prime) (Res.ok (t128 % curve_.f_prime))).bind fun a133 => ((((Res.need (CMulX y_ square_) (Res.ok (y_ * square_))).bind fun (t129 : Int) => Res.need (CMulX t129 scale_) (Res.ok (t129 * scale_))).bind fun (t130 : Int) => Res.need (0 < curve_.f_prime) (Res.ok (t130 % curve_.f_prime))).bind fun a131 => Res.ok (a131, ())).bind fun a134 => Res.ok (a133, a134)).bind fun p135 => Res.ok (T2.mk p135.1 p135.2.1)).bind fun (x : (T2 Int Int)) => Res.ok (some x))) u126.a u126.b u126.c
theorem ok_from_jacobian {P : Program} {w : World} {K : PySem.W.Frag} {mg : Str → Option Value} {base : Heap} (T : Facts P w K mg) {fd : FuncData} (F : FnP K "from_jacobian" "from_jacobian" s_from_jacobian (He.ga K "from_jacobian") fd) :
    FnOk P w K mg base (L2.CX P w) 3 (He.ga K "from_jacobian") fd ["curve", "triple"] (spM K (fun (p : O_Curve × (T3 Int Int Int) × Unit) => m_from_jacobian p.1 p.2.1)) := by
  obtain ⟨fd_inverse, F_inverse⟩ := T.d_inverse
  have G_inverse := ok_inverse (P := P) (w := w) (base := base) T F_inverse
  have b_inverse : Binds K fd_inverse ["a", "modulus"] [] := F_inverse.bindsN fun _ _ _ _ _ _ us hl => match us, hl with | [_, _], _ => rfl
  refine fn_ok F sc_from_jacobian (fun y => rfl) (fun cdv A outer s H E hr => ?_)
  refine ⟨_, (pss_cons (ps_asg (pv 1) (pg_tup rfl (pgs_cons (pg_name (i := 2) sc_from_jacobian.nd rfl (Or.inl rfl)) (pgs_cons (pg_name (i := 3) sc_from_jacobian.nd rfl (Or.inl rfl)) (pgs_cons (pg_name (i := 4) sc_from_jacobian.nd rfl (Or.inl rfl)) pgs_nil))))) (pss_cons (ps_if (pt_cmpR op_eq (pv 4) pe_int (nomark _)) (pss_one (ps_ret pe_non)) pss_nil) (pss_cons (ps_set (i := 5) sc_from_jacobian.nd rfl (Or.inl rfl) (pe_callS G_inverse (hr.mono (by decide)) rfl T.g_inverse F_inverse.kp b_inverse (fun σ => passAt (takes_of rfl rfl rfl rfl) σ) (pa_cons (pv 4) (pa_cons (pe_fld (pv 0) rfl) pa_nil)))) (pss_cons (ps_set (i := 6) sc_from_jacobian.nd rfl (Or.inl rfl) (pe_op op_mod (pe_op op_mulX (pv 5) (pv 5)) (pe_fld (pv 0) rfl))) (pss_one (ps_ret (pe_tup (pa_cons (pe_op op_mod (pe_op op_mulX (pv 2) (pv 6)) (pe_fld (pv 0) rfl)) (pa_cons (pe_op op_mod (pe_op op_mulX (pe_op op_mulX (pv 3) (pv 6)) (pv 5)) (pe_fld (pv 0) rfl)) pa_nil))))))))), ?_⟩
  rintro ⟨curve_, triple_, ⟨⟩⟩ F0 H0 Q KP L
  show Blk K F0 H0 KP _ [some (.im (toD curve_)), some (.im (toD triple_)), none, none, none, none, none] (m_from_jacobian curve_ triple_)
  unfold m_from_jacobian
  have hs_ := ((ev_var (i := 1) (x := triple_) rfl) : EvX K (W0 E) [some (.im (toD curve_)), some (.im (toD triple_)), none, none, none, none, none] _ _); replace hs_ : EvX K (W0 E) [some (.im (toD curve_)), some (.im (toD triple_)), none, none, none, none, none] _ (Res.ok triple_ : Res (T3 Int Int Int)) := hs_
  refine blk_seq (blk_asg L trivial hs_ (fun _ => (gx_tup (gxs_cons gx_name (gxs_cons gx_name (gxs_cons gx_name gxs_nil))) rfl)) fun u126 => ?_)
  show Blk _ _ _ _ _ [some (.im (toD curve_)), some (.im (toD triple_)), some (.im (toD u126.a)), some (.im (toD u126.b)), some (.im (toD u126.c)), none, none] ((fun (x_ : Int) (y_ : Int) (z_ : Int) => _) u126.a u126.b u126.c)
  generalize u126.a = x_
  generalize u126.b = y_
  generalize u126.c = z_
  show Blk _ _ _ _ _ [some (.im (toD curve_)), some (.im (toD triple_)), some (.im (toD x_)), some (.im (toD y_)), some (.im (toD z_)), none, none] _
  try refine Blk.nx ?_
  have ht_ := ((et_test (ev_op opx_eqI mild_ok (ev_var (i := 4) (x := z_) rfl) (ev_int (i := 0)))) : EvT K (W0 E) [some (.im (toD curve_)), some (.im (toD triple_)), some (.im (toD x_)), some (.im (toD y_)), some (.im (toD z_)), none, none] _ _); replace ht_ : EvT K (W0 E) [some (.im (toD curve_)), some (.im (toD triple_)), some (.im (toD x_)), some (.im (toD y_)), some (.im (toD z_)), none, none] _ ((Res.ok (decide (z_ = (0 : Int))))) := ht_
  refine blk_seq (blk_if2 L trivial ht_ ?_ ?_)
  · have hr_ := ((ev_noneO (α := (T2 Int Int))) : EvX K (W0 E) [some (.im (toD curve_)), some (.im (toD triple_)), some (.im (toD x_)), some (.im (toD y_)), some (.im (toD z_)), none, none] _ _); replace hr_ : EvX K (W0 E) [some (.im (toD curve_)), some (.im (toD triple_)), some (.im (toD x_)), some (.im (toD y_)), some (.im (toD z_)), none, none] _ (Res.ok (none : (Option (T2 Int Int))) : Res (Option (T2 Int Int))) := hr_
    exact blk_ret L trivial hr_
  · refine blk_nil ?_
    try refine Blk.nx ?_
    have hs_ := ((ev_call (f := (fun (p : Int × Int × Unit) => m_inverse p.1 p.2.1)) (ea_cons (ev_var (i := 4) (x := z_) rfl) (ea_cons (ev_fld (g := fun (x : O_Curve) => x.f_prime) (c := "Curve") (ks := ["prime", "a", "b"]) (j := 0) (ev_var (i := 0) (x := curve_) rfl) T.cl_Curve T.nf_Curve_prime (by decide +kernel) (fun _ => ⟨_, rfl, rfl⟩)) ea_nil))) : EvX K (W0 E) [some (.im (toD curve_)), some (.im (toD triple_)), some (.im (toD x_)), some (.im (toD y_)), some (.im (toD z_)), none, none] _ _); replace hs_ : EvX K (W0 E) [some (.im (toD curve_)), some (.im (toD triple_)), some (.im (toD x_)), some (.im (toD y_)), some (.im (toD z_)), none, none] _ (m_inverse z_ curve_.f_prime) := hs_
    refine blk_seq (blk_set (i := 5) L trivial hs_ fun scale_ => ?_)
    show Blk _ _ _ _ _ [some (.im (toD curve_)), some (.im (toD triple_)), some (.im (toD x_)), some (.im (toD y_)), some (.im (toD z_)), some (.im (toD scale_)), none] _
    try refine Blk.nx ?_
    have hs_ := ((ev_op (opx_I (C := (fun _ j => 0 < j)) (g := fun i j => i % j)) mild_need (ev_op (opx_I (C := CMulX) (g := fun i j => i * j)) mild_need (ev_var (i := 5) (x := scale_) rfl) (ev_var (i := 5) (x := scale_) rfl)) (ev_fld (g := fun (x : O_Curve) => x.f_prime) (c := "Curve") (ks := ["prime", "a", "b"]) (j := 0) (ev_var (i := 0) (x := curve_) rfl) T.cl_Curve T.nf_Curve_prime (by decide +kernel) (fun _ => ⟨_, rfl, rfl⟩))) : EvX K (W0 E) [some (.im (toD curve_)), some (.im (toD triple_)), some (.im (toD x_)), some (.im (toD y_)), some (.im (toD z_)), some (.im (toD scale_)), none] _ _); replace hs_ : EvX K (W0 E) [some (.im (toD curve_)), some (.im (toD triple_)), some (.im (toD x_)), some (.im (toD y_)), some (.im (toD z_)), some (.im (toD scale_)), none] _ ((Res.need (CMulX scale_ scale_) (Res.ok (scale_ * scale_))).bind fun (t127 : Int) => Res.need (0 < curve_.f_prime) (Res.ok (t127 % curve_.f_prime))) := hs_
    refine blk_seq (blk_set (i := 6) L trivial hs_ fun square_ => ?_)
    show Blk _ _ _ _ _ [some (.im (toD curve_)), some (.im (toD triple_)), some (.im (toD x_)), some (.im (toD y_)), some (.im (toD z_)), some (.im (toD scale_)), some (.im (toD square_))] _
    try refine Blk.nx ?_
    have hr_ := ((ev_as (ev_tup (f := (fun y => T2.mk y.1 y.2.1)) (ea_cons (ev_op (opx_I (C := (fun _ j => 0 < j)) (g := fun i j => i % j)) mild_need (ev_op (opx_I (C := CMulX) (g := fun i j => i * j)) mild_need (ev_var (i := 2) (x := x_) rfl) (ev_var (i := 6) (x := square_) rfl)) (ev_fld (g := fun (x : O_Curve) => x.f_prime) (c := "Curve") (ks := ["prime", "a", "b"]) (j := 0) (ev_var (i := 0) (x := curve_) rfl) T.cl_Curve T.nf_Curve_prime (by decide +kernel) (fun _ => ⟨_, rfl, rfl⟩))) (ea_cons (ev_op (opx_I (C := (fun _ j => 0 < j)) (g := fun i j => i % j)) mild_need (ev_op (opx_I (C := CMulX) (g := fun i j => i * j)) mild_need (ev_op (opx_I (C := CMulX) (g := fun i j => i * j)) mild_need (ev_var (i := 3) (x := y_) rfl) (ev_var (i := 6) (x := square_) rfl)) (ev_var (i := 5) (x := scale_) rfl)) (ev_fld (g := fun (x : O_Curve) => x.f_prime) (c := "Curve") (ks := ["prime", "a", "b"]) (j := 0) (ev_var (i := 0) (x := curve_) rfl) T.cl_Curve T.nf_Curve_prime (by decide +kernel) (fun _ => ⟨_, rfl, rfl⟩))) ea_nil)) (fun _ => rfl) (fun _ => by show 2 ≤ 100000; decide)) some (fun _ => rfl) rfl) : EvX K (W0 E) [some (.im (toD curve_)), some (.im (toD triple_)), some (.im (toD x_)), some (.im (toD y_)), some (.im (toD z_)), some (.im (toD scale_)), some (.im (toD square_))] _ _); replace hr_ : EvX K (W0 E) [some (.im (toD curve_)), some (.im (toD triple_)), some (.im (toD x_)), some (.im (toD y_)), some (.im (toD z_)), some (.im (toD scale_)), some (.im (toD square_))] _ (((((Res.need (CMulX x_ square_) (Res.ok (x_ * square_))).bind fun (t128 : Int) => Res.need (0 < curve_.f_prime) (Res.ok (t128 % curve_.f_prime))).bind fun a133 => ((((Res.need (CMulX y_ square_) (Res.ok (y_ * square_))).bind fun (t129 : Int) => Res.need (CMulX t129 scale_) (Res.ok (t129 * scale_))).bind fun (t130 : Int) => Res.need (0 < curve_.f_prime) (Res.ok (t130 % curve_.f_prime))).bind fun a131 => Res.ok (a131, ())).bind fun a134 => Res.ok (a133, a134)).bind fun p135 => Res.ok (T2.mk p135.1 p135.2.1)).bind fun (x : (T2 Int Int)) => Res.ok (some x)) := hr_
    exact blk_ret L trivial hr_
noncomputable def m_double_jacobian (curve_ : O_Curve) (triple_ : (T3 Int Int Int)) : Res (T3 Int Int Int) :=
  ((Res.ok triple_)).bind fun (u136 : (T3 Int Int Int)) =>   (fun (x_ : Int) (y_ : Int) (z_ : Int) => (cond (decide (y_ = (0 : Int))) (Res.ok true) ((Res.ok (decide (z_ = (0 : Int)))))).bind fun b => cond b   ((Res.ok k_INFINITY))   (((Res.ok curve_.f_prime)).bind fun (p_ : Int) =>   ((Res.need (CMulX y_ y_) (Res.ok (y_ * y_))).bind fun (t137 : Int) => Res.need (0 < p_) (Res.ok (t137 % p_))).bind fun (y_square_ : Int) =>   ((Res.need (CMulX ((4 : Int) * x_) y_square_) (Res.ok (((4 : Int) * x_) * y_square_))).bind fun (t138 : Int) => Res.need (0 < p_) (Res.ok (t138 % p_))).bind fun (s_ : Int) =>   (((Res.need (CMulX ((3 : Int) * x_) x_) (Res.ok (((3 : Int) * x_) * x_))).bind fun (t140 : Int) => ((Res.need (CPowX z_ (4 : Int)) (Res.ok (z_ ^ (4 : Int).toNat))).bind fun (t139 : Int) => Res.need (CMulX curve_.f_a t139) (Res.ok (curve_.f_a * t139))).bind fun (t141 : Int) => Res.ok (t140 + t141)).bind fun (t142 : Int) => Res.need (0 < p_) (Res.ok (t142 % p_))).bind fun (m_ : Int) =>   (((Res.need (CMulX m_ m_) (Res.ok (m_ * m_))).bind fun (t143 : Int) => Res.ok (t143 - ((2 : Int) * s_))).bind fun (t144 : Int) => Res.need (0 < p_) (Res.ok (t144 % p_))).bind fun (x3_ : Int) =>   (((Res.need (CMulX m_ (s_ - x3_)) (Res.ok (m_ * (s_ - x3_)))).bind fun (t145 : Int) => (Res.need (CMulX ((8 : Int) * y_square_) y_square_) (Res.ok (((8 : Int) * y_square_) * y_square_))).bind fun (t146 : Int) => Res.ok (t145 - t146)).bind fun (t147 : Int) => Res.need (0 < p_) (Res.ok (t147 % p_))).bind fun (y3_ : Int) =>   (((((Res.need (CMulX ((2 : Int) * y_) z_) (Res.ok (((2 : Int) * y_) * z_))).bind fun (t148 : Int) => Res.need (0 < p_) (Res.ok (t148 % p_))).bind fun a149 => Res.ok (a149, ())).bind fun a152 => Res.ok (y3_, a152)).bind fun a154 => Res.ok (x3_, a154)).bind fun p155 => Res.ok (T3.mk p155.1 p155.2.1 p155.2.2.1))) u136.a u136.b u136.c
theorem ok_double_jacobian {P : Program} {w : World} {K : PySem.W.Frag} {mg : Str → Option Value} {base : Heap} (T : Facts P w K mg) {fd : FuncData} (F : FnP K "double_jacobian" "double_jacobian" s_double_jacobian (He.ga K "double_jacobian") fd) :
    FnOk P w K mg base (L2.CX P w) 1 (He.ga K "double_jacobian") fd ["curve", "triple"] (spM K (fun (p : O_Curve × (T3 Int Int Int) × Unit) => m_double_jacobian p.1 p.2.1)) := by
  refine fn_ok F sc_double_jacobian (fun y => rfl) (fun cdv A outer s H E hr => ?_)
  refine ⟨_, (pss_cons (ps_asg (pv 1) (pg_tup rfl (pgs_cons (pg_name (i := 2) sc_double_jacobian.nd rfl (Or.inl rfl)) (pgs_cons (pg_name (i := 3) sc_double_jacobian.nd rfl (Or.inl rfl)) (pgs_cons (pg_name (i := 4) sc_double_jacobian.nd rfl (Or.inl rfl)) pgs_nil))))) (pss_cons (ps_if (PW.pt (pw_or (pt_cmpR op_eq (pv 3) pe_int (nomark _)) (pw_or1 (pt_cmpR op_eq (pv 4) pe_int (nomark _))))) (pss_one (ps_ret (pe_glob (v := T.c_INFINITY.v) rfl T.c_INFINITY.m T.c_INFINITY.r))) pss_nil) (pss_cons (ps_set (i := 5) sc_double_jacobian.nd rfl (Or.inl rfl) (pe_fld (pv 0) rfl)) (pss_cons (ps_set (i := 6) sc_double_jacobian.nd rfl (Or.inl rfl) (pe_op op_mod (pe_op op_mulX (pv 3) (pv 3)) (pv 5))) (pss_cons (ps_set (i := 7) sc_double_jacobian.nd rfl (Or.inl rfl) (pe_op op_mod (pe_op op_mulX (pe_op op_mul pe_int (pv 2)) (pv 6)) (pv 5))) (pss_cons (ps_set (i := 8) sc_double_jacobian.nd rfl (Or.inl rfl) (pe_op op_mod (pe_op op_add (pe_op op_mulX (pe_op op_mul pe_int (pv 2)) (pv 2)) (pe_op op_mulX (pe_fld (pv 0) rfl) (pe_op op_powX (pv 4) pe_int))) (pv 5))) (pss_cons (ps_set (i := 9) sc_double_jacobian.nd rfl (Or.inl rfl) (pe_op op_mod (pe_op op_sub (pe_op op_mulX (pv 8) (pv 8)) (pe_op op_mul pe_int (pv 7))) (pv 5))) (pss_cons (ps_set (i := 10) sc_double_jacobian.nd rfl (Or.inl rfl) (pe_op op_mod (pe_op op_sub (pe_op op_mulX (pv 8) (pe_op op_sub (pv 7) (pv 9))) (pe_op op_mulX (pe_op op_mul pe_int (pv 6)) (pv 6))) (pv 5))) (pss_one (ps_ret (pe_tup (pa_cons (pv 9) (pa_cons (pv 10) (pa_cons (pe_op op_mod (pe_op op_mulX (pe_op op_mul pe_int (pv 3)) (pv 4)) (pv 5)) pa_nil)))))))))))))), ?_⟩
  rintro ⟨curve_, triple_, ⟨⟩⟩ F0 H0 Q KP L
  show Blk K F0 H0 KP _ [some (.im (toD curve_)), some (.im (toD triple_)), none, none, none, none, none, none, none, none, none] (m_double_jacobian curve_ triple_)
  unfold m_double_jacobian
  have hs_ := ((ev_var (i := 1) (x := triple_) rfl) : EvX K (W0 E) [some (.im (toD curve_)), some (.im (toD triple_)), none, none, none, none, none, none, none, none, none] _ _); replace hs_ : EvX K (W0 E) [some (.im (toD curve_)), some (.im (toD triple_)), none, none, none, none, none, none, none, none, none] _ (Res.ok triple_ : Res (T3 Int Int Int)) := hs_
  refine blk_seq (blk_asg L trivial hs_ (fun _ => (gx_tup (gxs_cons gx_name (gxs_cons gx_name (gxs_cons gx_name gxs_nil))) rfl)) fun u136 => ?_)
  show Blk _ _ _ _ _ [some (.im (toD curve_)), some (.im (toD triple_)), some (.im (toD u136.a)), some (.im (toD u136.b)), some (.im (toD u136.c)), none, none, none, none, none, none] ((fun (x_ : Int) (y_ : Int) (z_ : Int) => _) u136.a u136.b u136.c)
  generalize u136.a = x_
  generalize u136.b = y_
  generalize u136.c = z_
  show Blk _ _ _ _ _ [some (.im (toD curve_)), some (.im (toD triple_)), some (.im (toD x_)), some (.im (toD y_)), some (.im (toD z_)), none, none, none, none, none, none] _
  try refine Blk.nx ?_
  have ht_ := ((et_or (et_test (ev_op opx_eqI mild_ok (ev_var (i := 3) (x := y_) rfl) (ev_int (i := 0)))) (et_test (ev_op opx_eqI mild_ok (ev_var (i := 4) (x := z_) rfl) (ev_int (i := 0))))) : EvT K (W0 E) [some (.im (toD curve_)), some (.im (toD triple_)), some (.im (toD x_)), some (.im (toD y_)), some (.im (toD z_)), none, none, none, none, none, none] _ _); replace ht_ : EvT K (W0 E) [some (.im (toD curve_)), some (.im (toD triple_)), some (.im (toD x_)), some (.im (toD y_)), some (.im (toD z_)), none, none, none, none, none, none] _ (cond (decide (y_ = (0 : Int))) (Res.ok true) ((Res.ok (decide (z_ = (0 : Int)))))) := ht_
  refine blk_seq (blk_if2 L trivial ht_ ?_ ?_)
  · have hr_ := ((ev_con T.c_INFINITY) : EvX K (W0 E) [some (.im (toD curve_)), some (.im (toD triple_)), some (.im (toD x_)), some (.im (toD y_)), some (.im (toD z_)), none, none, none, none, none, none] _ _); replace hr_ : EvX K (W0 E) [some (.im (toD curve_)), some (.im (toD triple_)), some (.im (toD x_)), some (.im (toD y_)), some (.im (toD z_)), none, none, none, none, none, none] _ (Res.ok k_INFINITY : Res (T3 Int Int Int)) := hr_
    exact blk_ret L trivial hr_
  · refine blk_nil ?_
    try refine Blk.nx ?_
    have hs_ := ((ev_fld (g := fun (x : O_Curve) => x.f_prime) (c := "Curve") (ks := ["prime", "a", "b"]) (j := 0) (ev_var (i := 0) (x := curve_) rfl) T.cl_Curve T.nf_Curve_prime (by decide +kernel) (fun _ => ⟨_, rfl, rfl⟩)) : EvX K (W0 E) [some (.im (toD curve_)), some (.im (toD triple_)), some (.im (toD x_)), some (.im (toD y_)), some (.im (toD z_)), none, none, none, none, none, none] _ _); replace hs_ : EvX K (W0 E) [some (.im (toD curve_)), some (.im (toD triple_)), some (.im (toD x_)), some (.im (toD y_)), some (.im (toD z_)), none, none, none, none, none, none] _ (Res.ok curve_.f_prime : Res Int) := hs_
    refine blk_seq (blk_set (i := 5) L trivial hs_ fun p_ => ?_)
    show Blk _ _ _ _ _ [some (.im (toD curve_)), some (.im (toD triple_)), some (.im (toD x_)), some (.im (toD y_)), some (.im (toD z_)), some (.im (toD p_)), none, none, none, none, none] _
    try refine Blk.nx ?_
    have hs_ := ((ev_op (opx_I (C := (fun _ j => 0 < j)) (g := fun i j => i % j)) mild_need (ev_op (opx_I (C := CMulX) (g := fun i j => i * j)) mild_need (ev_var (i := 3) (x := y_) rfl) (ev_var (i := 3) (x := y_) rfl)) (ev_var (i := 5) (x := p_) rfl)) : EvX K (W0 E) [some (.im (toD curve_)), some (.im (toD triple_)), some (.im (toD x_)), some (.im (toD y_)), some (.im (toD z_)), some (.im (toD p_)), none, none, none, none, none] _ _); replace hs_ : EvX K (W0 E) [some (.im (toD curve_)), some (.im (toD triple_)), some (.im (toD x_)), some (.im (toD y_)), some (.im (toD z_)), some (.im (toD p_)), none, none, none, none, none] _ ((Res.need (CMulX y_ y_) (Res.ok (y_ * y_))).bind fun (t137 : Int) => Res.need (0 < p_) (Res.ok (t137 % p_))) := hs_
    refine blk_seq (blk_set (i := 6) L trivial hs_ fun y_square_ => ?_)
    show Blk _ _ _ _ _ [some (.im (toD curve_)), some (.im (toD triple_)), some (.im (toD x_)), some (.im (toD y_)), some (.im (toD z_)), some (.im (toD p_)), some (.im (toD y_square_)), none, none, none, none] _
    try refine Blk.nx ?_
    have hs_ := ((ev_op (opx_I (C := (fun _ j => 0 < j)) (g := fun i j => i % j)) mild_need (ev_op (opx_I (C := CMulX) (g := fun i j => i * j)) mild_need (ev_opI (C := CMul) (g := fun i j => i * j) (fun x y h _ => by cases h; exact .inl (by decide)) (ev_int (i := 4)) (ev_var (i := 2) (x := x_) rfl)) (ev_var (i := 6) (x := y_square_) rfl)) (ev_var (i := 5) (x := p_) rfl)) : EvX K (W0 E) [some (.im (toD curve_)), some (.im (toD triple_)), some (.im (toD x_)), some (.im (toD y_)), some (.im (toD z_)), some (.im (toD p_)), some (.im (toD y_square_)), none, none, none, none] _ _); replace hs_ : EvX K (W0 E) [some (.im (toD curve_)), some (.im (toD triple_)), some (.im (toD x_)), some (.im (toD y_)), some (.im (toD z_)), some (.im (toD p_)), some (.im (toD y_square_)), none, none, none, none] _ ((Res.need (CMulX ((4 : Int) * x_) y_square_) (Res.ok (((4 : Int) * x_) * y_square_))).bind fun (t138 : Int) => Res.need (0 < p_) (Res.ok (t138 % p_))) := hs_
    refine blk_seq (blk_set (i := 7) L trivial hs_ fun s_ => ?_)
    show Blk _ _ _ _ _ [some (.im (toD curve_)), some (.im (toD triple_)), some (.im (toD x_)), some (.im (toD y_)), some (.im (toD z_)), some (.im (toD p_)), some (.im (toD y_square_)), some (.im (toD s_)), none, none, none] _
    try refine Blk.nx ?_
    have hs_ := ((ev_op (opx_I (C := (fun _ j => 0 < j)) (g := fun i j => i % j)) mild_need (ev_op (opx_I0 (g := fun i j => i + j)) mild_ok (ev_op (opx_I (C := CMulX) (g := fun i j => i * j)) mild_need (ev_opI (C := CMul) (g := fun i j => i * j) (fun x y h _ => by cases h; exact .inl (by decide)) (ev_int (i := 3)) (ev_var (i := 2) (x := x_) rfl)) (ev_var (i := 2) (x := x_) rfl)) (ev_op (opx_I (C := CMulX) (g := fun i j => i * j)) mild_need (ev_fld (g := fun (x : O_Curve) => x.f_a) (c := "Curve") (ks := ["prime", "a", "b"]) (j := 1) (ev_var (i := 0) (x := curve_) rfl) T.cl_Curve T.nf_Curve_a (by decide +kernel) (fun _ => ⟨_, rfl, rfl⟩)) (ev_op (opx_I (C := CPowX) (g := fun i j => i ^ j.toNat)) mild_need (ev_var (i := 4) (x := z_) rfl) (ev_int (i := 4))))) (ev_var (i := 5) (x := p_) rfl)) : EvX K (W0 E) [some (.im (toD curve_)), some (.im (toD triple_)), some (.im (toD x_)), some (.im (toD y_)), some (.im (toD z_)), some (.im (toD p_)), some (.im (toD y_square_)), some (.im (toD s_)), none, none, none] _ _); replace hs_ : EvX K (W0 E) [some (.im (toD curve_)), some (.im (toD triple_)), some (.im (toD x_)), some (.im (toD y_)), some (.im (toD z_)), some (.im (toD p_)), some (.im (toD y_square_)), some (.im (toD s_)), none, none, none] _ (((Res.need (CMulX ((3 : Int) * x_) x_) (Res.ok (((3 : Int) * x_) * x_))).bind fun (t140 : Int) => ((Res.need (CPowX z_ (4 : Int)) (Res.ok (z_ ^ (4 : Int).toNat))).bind fun (t139 : Int) => Res.need (CMulX curve_.f_a t139) (Res.ok (curve_.f_a * t139))).bind fun (t141 : Int) => Res.ok (t140 + t141)).bind fun (t142 : Int) => Res.need (0 < p_) (Res.ok (t142 % p_))) := hs_
    refine blk_seq (blk_set (i := 8) L trivial hs_ fun m_ => ?_)
    show Blk _ _ _ _ _ [some (.im (toD curve_)), some (.im (toD triple_)), some (.im (toD x_)), some (.im (toD y_)), some (.im (toD z_)), some (.im (toD p_)), some (.im (toD y_square_)), some (.im (toD s_)), some (.im (toD m_)), none, none] _
    try refine Blk.nx ?_
    have hs_ := ((ev_op (opx_I (C := (fun _ j => 0 < j)) (g := fun i j => i % j)) mild_need (ev_op (opx_I0 (g := fun i j => i - j)) mild_ok (ev_op (opx_I (C := CMulX) (g := fun i j => i * j)) mild_need (ev_var (i := 8) (x := m_) rfl) (ev_var (i := 8) (x := m_) rfl)) (ev_opI (C := CMul) (g := fun i j => i * j) (fun x y h _ => by cases h; exact .inl (by decide)) (ev_int (i := 2)) (ev_var (i := 7) (x := s_) rfl))) (ev_var (i := 5) (x := p_) rfl)) : EvX K (W0 E) [some (.im (toD curve_)), some (.im (toD triple_)), some (.im (toD x_)), some (.im (toD y_)), some (.im (toD z_)), some (.im (toD p_)), some (.im (toD y_square_)), some (.im (toD s_)), some (.im (toD m_)), none, none] _ _); replace hs_ : EvX K (W0 E) [some (.im (toD curve_)), some (.im (toD triple_)), some (.im (toD x_)), some (.im (toD y_)), some (.im (toD z_)), some (.im (toD p_)), some (.im (toD y_square_)), some (.im (toD s_)), some (.im (toD m_)), none, none] _ (((Res.need (CMulX m_ m_) (Res.ok (m_ * m_))).bind fun (t143 : Int) => Res.ok (t143 - ((2 : Int) * s_))).bind fun (t144 : Int) => Res.need (0 < p_) (Res.ok (t144 % p_))) := hs_
    refine blk_seq (blk_set (i := 9) L trivial hs_ fun x3_ => ?_)
    show Blk _ _ _ _ _ [some (.im (toD curve_)), some (.im (toD triple_)), some (.im (toD x_)), some (.im (toD y_)), some (.im (toD z_)), some (.im (toD p_)), some (.im (toD y_square_)), some (.im (toD s_)), some (.im (toD m_)), some (.im (toD x3_)), none] _
    try refine Blk.nx ?_
    have hs_ := ((ev_op (opx_I (C := (fun _ j => 0 < j)) (g := fun i j => i % j)) mild_need (ev_op (opx_I0 (g := fun i j => i - j)) mild_ok (ev_op (opx_I (C := CMulX) (g := fun i j => i * j)) mild_need (ev_var (i := 8) (x := m_) rfl) (ev_op (opx_I0 (g := fun i j => i - j)) mild_ok (ev_var (i := 7) (x := s_) rfl) (ev_var (i := 9) (x := x3_) rfl))) (ev_op (opx_I (C := CMulX) (g := fun i j => i * j)) mild_need (ev_opI (C := CMul) (g := fun i j => i * j) (fun x y h _ => by cases h; exact .inl (by decide)) (ev_int (i := 8)) (ev_var (i := 6) (x := y_square_) rfl)) (ev_var (i := 6) (x := y_square_) rfl))) (ev_var (i := 5) (x := p_) rfl)) : EvX K (W0 E) [some (.im (toD curve_)), some (.im (toD triple_)), some (.im (toD x_)), some (.im (toD y_)), some (.im (toD z_)), some (.im (toD p_)), some (.im (toD y_square_)), some (.im (toD s_)), some (.im (toD m_)), some (.im (toD x3_)), none] _ _); replace hs_ : EvX K (W0 E) [some (.im (toD curve_)), some (.im (toD triple_)), some (.im (toD x_)), some (.im (toD y_)), some (.im (toD z_)), some (.im (toD p_)), some (.im (toD y_square_)), some (.im (toD s_)), some (.im (toD m_)), some (.im (toD x3_)), none] _ (((Res.need (CMulX m_ (s_ - x3_)) (Res.ok (m_ * (s_ - x3_)))).bind fun (t145 : Int) => (Res.need (CMulX ((8 : Int) * y_square_) y_square_) (Res.ok (((8 : Int) * y_square_) * y_square_))).bind fun (t146 : Int) => Res.ok (t145 - t146)).bind fun (t147 : Int) => Res.need (0 < p_) (Res.ok (t147 % p_))) := hs_
    refine blk_seq (blk_set (i := 10) L trivial hs_ fun y3_ => ?_)
    show Blk _ _ _ _ _ [some (.im (toD curve_)), some (.im (toD triple_)), some (.im (toD x_)), some (.im (toD y_)), some (.im (toD z_)), some (.im (toD p_)), some (.im (toD y_square_)), some (.im (toD s_)), some (.im (toD m_)), some (.im (toD x3_)), some (.im (toD y3_))] _
    try refine Blk.nx ?_
    have hr_ := ((ev_tup (f := (fun y => T3.mk y.1 y.2.1 y.2.2.1)) (ea_cons (ev_var (i := 9) (x := x3_) rfl) (ea_cons (ev_var (i := 10) (x := y3_) rfl) (ea_cons (ev_op (opx_I (C := (fun _ j => 0 < j)) (g := fun i j => i % j)) mild_need (ev_op (opx_I (C := CMulX) (g := fun i j => i * j)) mild_need (ev_opI (C := CMul) (g := fun i j => i * j) (fun x y h _ => by cases h; exact .inl (by decide)) (ev_int (i := 2)) (ev_var (i := 3) (x := y_) rfl)) (ev_var (i := 4) (x := z_) rfl)) (ev_var (i := 5) (x := p_) rfl)) ea_nil))) (fun _ => rfl) (fun _ => by show 3 ≤ 100000; decide)) : EvX K (W0 E) [some (.im (toD curve_)), some (.im (toD triple_)), some (.im (toD x_)), some (.im (toD y_)), some (.im (toD z_)), some (.im (toD p_)), some (.im (toD y_square_)), some (.im (toD s_)), some (.im (toD m_)), some (.im (toD x3_)), some (.im (toD y3_))] _ _); replace hr_ : EvX K (W0 E) [some (.im (toD curve_)), some (.im (toD triple_)), some (.im (toD x_)), some (.im (toD y_)), some (.im (toD z_)), some (.im (toD p_)), some (.im (toD y_square_)), some (.im (toD s_)), some (.im (toD m_)), some (.im (toD x3_)), some (.im (toD y3_))] _ ((((((Res.need (CMulX ((2 : Int) * y_) z_) (Res.ok (((2 : Int) * y_) * z_))).bind fun (t148 : Int) => Res.need (0 < p_) (Res.ok (t148 % p_))).bind fun a149 => Res.ok (a149, ())).bind fun a152 => Res.ok (y3_, a152)).bind fun a154 => Res.ok (x3_, a154)).bind fun p155 => Res.ok (T3.mk p155.1 p155.2.1 p155.2.2.1)) := hr_
    exact blk_ret L trivial hr_
noncomputable def m_u_scaled (triple_ : (T3 Int Int Int)) (z_ : Int) (prime_ : Int) : Res (T2 Int Int) :=
  ((Res.need (CMulX z_ z_) (Res.ok (z_ * z_))).bind fun (t156 : Int) => Res.need (0 < prime_) (Res.ok (t156 % prime_))).bind fun (square_ : Int) =>   (((Res.need (CMulX triple_.a square_) (Res.ok (triple_.a * square_))).bind fun (t157 : Int) => Res.need (0 < prime_) (Res.ok (t157 % prime_))).bind fun a162 => ((((Res.need (CMulX triple_.b square_) (Res.ok (triple_.b * square_))).bind fun (t158 : Int) => Res.need (CMulX t158 z_) (Res.ok (t158 * z_))).bind fun (t159 : Int) => Res.need (0 < prime_) (Res.ok (t159 % prime_))).bind fun a160 => Res.ok (a160, ())).bind fun a163 => Res.ok (a162, a163)).bind fun p164 => Res.ok (T2.mk p164.1 p164.2.1)
theorem ok_u_scaled {P : Program} {w : World} {K : PySem.W.Frag} {mg : Str → Option Value} {base : Heap} (T : Facts P w K mg) {fd : FuncData} (F : FnP K "_scaled" "_scaled" s_u_scaled (He.ga K "_scaled") fd) :
    FnOk P w K mg base (L2.CX P w) 1 (He.ga K "_scaled") fd ["triple", "z", "prime"] (spM K (fun (p : (T3 Int Int Int) × Int × Int × Unit) => m_u_scaled p.1 p.2.1 p.2.2.1)) := by
  refine fn_ok F sc_u_scaled (fun y => rfl) (fun cdv A outer s H E hr => ?_)
  refine ⟨_, (pss_cons (ps_set (i := 3) sc_u_scaled.nd rfl (Or.inl rfl) (pe_op op_mod (pe_op op_mulX (pv 1) (pv 1)) (pv 2))) (pss_one (ps_ret (pe_tup (pa_cons (pe_op op_mod (pe_op op_mulX (pe_ix (cr_ixT rfl) (pv 0) pe_int (fun _ _ => rfl)) (pv 3)) (pv 2)) (pa_cons (pe_op op_mod (pe_op op_mulX (pe_op op_mulX (pe_ix (cr_ixT rfl) (pv 0) pe_int (fun _ _ => rfl)) (pv 3)) (pv 1)) (pv 2)) pa_nil)))))), ?_⟩
  rintro ⟨triple_, z_, prime_, ⟨⟩⟩ F0 H0 Q KP L
  show Blk K F0 H0 KP _ [some (.im (toD triple_)), some (.im (toD z_)), some (.im (toD prime_)), none] (m_u_scaled triple_ z_ prime_)
  unfold m_u_scaled
  have hs_ := ((ev_op (opx_I (C := (fun _ j => 0 < j)) (g := fun i j => i % j)) mild_need (ev_op (opx_I (C := CMulX) (g := fun i j => i * j)) mild_need (ev_var (i := 1) (x := z_) rfl) (ev_var (i := 1) (x := z_) rfl)) (ev_var (i := 2) (x := prime_) rfl)) : EvX K (W0 E) [some (.im (toD triple_)), some (.im (toD z_)), some (.im (toD prime_)), none] _ _); replace hs_ : EvX K (W0 E) [some (.im (toD triple_)), some (.im (toD z_)), some (.im (toD prime_)), none] _ ((Res.need (CMulX z_ z_) (Res.ok (z_ * z_))).bind fun (t156 : Int) => Res.need (0 < prime_) (Res.ok (t156 % prime_))) := hs_
  refine blk_seq (blk_set (i := 3) L trivial hs_ fun square_ => ?_)
  show Blk _ _ _ _ _ [some (.im (toD triple_)), some (.im (toD z_)), some (.im (toD prime_)), some (.im (toD square_))] _
  try refine Blk.nx ?_
  have hr_ := ((ev_tup (f := (fun y => T2.mk y.1 y.2.1)) (ea_cons (ev_op (opx_I (C := (fun _ j => 0 < j)) (g := fun i j => i % j)) mild_need (ev_op (opx_I (C := CMulX) (g := fun i j => i * j)) mild_need (ev_ixTC (i := 0) (f := fun x => x.a) (ev_var (i := 0) (x := triple_) rfl) (fun x => ⟨_, rfl, rfl⟩)) (ev_var (i := 3) (x := square_) rfl)) (ev_var (i := 2) (x := prime_) rfl)) (ea_cons (ev_op (opx_I (C := (fun _ j => 0 < j)) (g := fun i j => i % j)) mild_need (ev_op (opx_I (C := CMulX) (g := fun i j => i * j)) mild_need (ev_op (opx_I (C := CMulX) (g := fun i j => i * j)) mild_need (ev_ixTC (i := 1) (f := fun x => x.b) (ev_var (i := 0) (x := triple_) rfl) (fun x => ⟨_, rfl, rfl⟩)) (ev_var (i := 3) (x := square_) rfl)) (ev_var (i := 1) (x := z_) rfl)) (ev_var (i := 2) (x := prime_) rfl)) ea_nil)) (fun _ => rfl) (fun _ => by show 2 ≤ 100000; decide)) : EvX K (W0 E) [some (.im (toD triple_)), some (.im (toD z_)), some (.im (toD prime_)), some (.im (toD square_))] _ _); replace hr_ : EvX K (W0 E) [some (.im (toD triple_)), some (.im (toD z_)), some (.im (toD prime_)), some (.im (toD square_))] _ ((((Res.need (CMulX triple_.a square_) (Res.ok (triple_.a * square_))).bind fun (t157 : Int) => Res.need (0 < prime_) (Res.ok (t157 % prime_))).bind fun a162 => ((((Res.need (CMulX triple_.b square_) (Res.ok (triple_.b * square_))).bind fun (t158 : Int) => Res.need (CMulX t158 z_) (Res.ok (t158 * z_))).bind fun (t159 : Int) => Res.need (0 < prime_) (Res.ok (t159 % prime_))).bind fun a160 => Res.ok (a160, ())).bind fun a163 => Res.ok (a162, a163)).bind fun p164 => Res.ok (T2.mk p164.1 p164.2.1)) := hr_
  exact blk_ret L trivial hr_
noncomputable def m_add_jacobian (curve_ : O_Curve) (first_ : (T3 Int Int Int)) (second_ : (T3 Int Int Int)) : Res (T3 Int Int Int) :=
  ((Res.ok (decide (first_.c = (0 : Int))))).bind fun b => cond b   ((Res.ok second_))   (((Res.ok (decide (second_.c = (0 : Int))))).bind fun b => cond b   ((Res.ok first_))   (((Res.ok curve_.f_prime)).bind fun (p_ : Int) =>   (m_u_scaled first_ second_.c p_).bind fun (u165 : (T2 Int Int)) =>   (fun (u1_ : Int) (s1_ : Int) => (m_u_scaled second_ first_.c p_).bind fun (u166 : (T2 Int Int)) =>   (fun (u2_ : Int) (s2_ : Int) => ((Res.ok (decide (u1_ = u2_)))).bind fun b => cond b   (cond (decide (s1_ = s2_)) (m_double_jacobian curve_ first_) ((Res.ok k_INFINITY)))   (((Res.ok (u2_ - u1_))).bind fun (h_ : Int) =>   ((Res.ok (s2_ - s1_))).bind fun (r_ : Int) =>   ((Res.need (CMulX h_ h_) (Res.ok (h_ * h_))).bind fun (t167 : Int) => Res.need (0 < p_) (Res.ok (t167 % p_))).bind fun (h_square_ : Int) =>   ((Res.need (CMulX h_ h_square_) (Res.ok (h_ * h_square_))).bind fun (t168 : Int) => Res.need (0 < p_) (Res.ok (t168 % p_))).bind fun (h_cube_ : Int) =>   ((Res.need (CMulX u1_ h_square_) (Res.ok (u1_ * h_square_))).bind fun (t169 : Int) => Res.need (0 < p_) (Res.ok (t169 % p_))).bind fun (v_ : Int) =>   ((((Res.need (CMulX r_ r_) (Res.ok (r_ * r_))).bind fun (t170 : Int) => Res.ok (t170 - h_cube_)).bind fun (t171 : Int) => Res.ok (t171 - ((2 : Int) * v_))).bind fun (t172 : Int) => Res.need (0 < p_) (Res.ok (t172 % p_))).bind fun (x3_ : Int) =>   (((Res.need (CMulX r_ (v_ - x3_)) (Res.ok (r_ * (v_ - x3_)))).bind fun (t173 : Int) => (Res.need (CMulX s1_ h_cube_) (Res.ok (s1_ * h_cube_))).bind fun (t174 : Int) => Res.ok (t173 - t174)).bind fun (t175 : Int) => Res.need (0 < p_) (Res.ok (t175 % p_))).bind fun (y3_ : Int) =>   ((((((Res.need (CMulX h_ first_.c) (Res.ok (h_ * first_.c))).bind fun (t176 : Int) => Res.need (CMulX t176 second_.c) (Res.ok (t176 * second_.c))).bind fun (t177 : Int) => Res.need (0 < p_) (Res.ok (t177 % p_))).bind fun a178 => Res.ok (a178, ())).bind fun a181 => Res.ok (y3_, a181)).bind fun a183 => Res.ok (x3_, a183)).bind fun p184 => Res.ok (T3.mk p184.1 p184.2.1 p184.2.2.1))) u166.a u166.b) u165.a u165.b))
theorem ok_add_jacobian {P : Program} {w : World} {K : PySem.W.Frag} {mg : Str → Option Value} {base : Heap} (T : Facts P w K mg) {fd : FuncData} (F : FnP K "add_jacobian" "add_jacobian" s_add_jacobian (He.ga K "add_jacobian") fd) :
    FnOk P w K mg base (L2.CX P w) 2 (He.ga K "add_jacobian") fd ["curve", "first", "second"] (spM K (fun (p : O_Curve × (T3 Int Int Int) × (T3 Int Int Int) × Unit) => m_add_jacobian p.1 p.2.1 p.2.2.1)) := by
  obtain ⟨fd_u_scaled, F_u_scaled⟩ := T.d_u_scaled
  have G_u_scaled := ok_u_scaled (P := P) (w := w) (base := base) T F_u_scaled
  have b_u_scaled : Binds K fd_u_scaled ["triple", "z", "prime"] [] := F_u_scaled.bindsN fun _ _ _ _ _ _ us hl => match us, hl with | [_, _, _], _ => rfl
  obtain ⟨fd_double_jacobian, F_double_jacobian⟩ := T.d_double_jacobian
  have G_double_jacobian := ok_double_jacobian (P := P) (w := w) (base := base) T F_double_jacobian
  have b_double_jacobian : Binds K fd_double_jacobian ["curve", "triple"] [] := F_double_jacobian.bindsN fun _ _ _ _ _ _ us hl => match us, hl with | [_, _], _ => rfl
  refine fn_ok F sc_add_jacobian (fun y => rfl) (fun cdv A outer s H E hr => ?_)
  refine ⟨_, (pss_cons (ps_if (pt_cmpR op_eq (pe_ix (cr_ixT rfl) (pv 1) pe_int (fun _ _ => rfl)) pe_int (nomark _)) (pss_one (ps_ret (pv 2))) pss_nil) (pss_cons (ps_if (pt_cmpR op_eq (pe_ix (cr_ixT rfl) (pv 2) pe_int (fun _ _ => rfl)) pe_int (nomark _)) (pss_one (ps_ret (pv 1))) pss_nil) (pss_cons (ps_set (i := 3) sc_add_jacobian.nd rfl (Or.inl rfl) (pe_fld (pv 0) rfl)) (pss_cons (ps_asg (pe_callS G_u_scaled (hr.mono (by decide)) rfl T.g_u_scaled F_u_scaled.kp b_u_scaled (fun σ => passAt (takes_of rfl rfl rfl rfl) σ) (pa_cons (pv 1) (pa_cons (pe_ix (cr_ixT rfl) (pv 2) pe_int (fun _ _ => rfl)) (pa_cons (pv 3) pa_nil)))) (pg_tup rfl (pgs_cons (pg_name (i := 4) sc_add_jacobian.nd rfl (Or.inl rfl)) (pgs_cons (pg_name (i := 5) sc_add_jacobian.nd rfl (Or.inl rfl)) pgs_nil)))) (pss_cons (ps_asg (pe_callS G_u_scaled (hr.mono (by decide)) rfl T.g_u_scaled F_u_scaled.kp b_u_scaled (fun σ => passAt (takes_of rfl rfl rfl rfl) σ) (pa_cons (pv 2) (pa_cons (pe_ix (cr_ixT rfl) (pv 1) pe_int (fun _ _ => rfl)) (pa_cons (pv 3) pa_nil)))) (pg_tup rfl (pgs_cons (pg_name (i := 6) sc_add_jacobian.nd rfl (Or.inl rfl)) (pgs_cons (pg_name (i := 7) sc_add_jacobian.nd rfl (Or.inl rfl)) pgs_nil)))) (pss_cons (ps_if (pt_cmpR op_eq (pv 4) (pv 6) (nomark _)) (pss_one (ps_ret (pe_ifExp (pt_cmpR op_eq (pv 5) (pv 7) (nomark _)) (pe_callS G_double_jacobian (hr.mono (by decide)) rfl T.g_double_jacobian F_double_jacobian.kp b_double_jacobian (fun σ => passAt (takes_of rfl rfl rfl rfl) σ) (pa_cons (pv 0) (pa_cons (pv 1) pa_nil))) (pe_glob (v := T.c_INFINITY.v) rfl T.c_INFINITY.m T.c_INFINITY.r)))) pss_nil) (pss_cons (ps_set (i := 8) sc_add_jacobian.nd rfl (Or.inl rfl) (pe_op op_sub (pv 6) (pv 4))) (pss_cons (ps_set (i := 9) sc_add_jacobian.nd rfl (Or.inl rfl) (pe_op op_sub (pv 7) (pv 5))) (pss_cons (ps_set (i := 10) sc_add_jacobian.nd rfl (Or.inl rfl) (pe_op op_mod (pe_op op_mulX (pv 8) (pv 8)) (pv 3))) (pss_cons (ps_set (i := 11) sc_add_jacobian.nd rfl (Or.inl rfl) (pe_op op_mod (pe_op op_mulX (pv 8) (pv 10)) (pv 3))) (pss_cons (ps_set (i := 12) sc_add_jacobian.nd rfl (Or.inl rfl) (pe_op op_mod (pe_op op_mulX (pv 4) (pv 10)) (pv 3))) (pss_cons (ps_set (i := 13) sc_add_jacobian.nd rfl (Or.inl rfl) (pe_op op_mod (pe_op op_sub (pe_op op_sub (pe_op op_mulX (pv 9) (pv 9)) (pv 11)) (pe_op op_mul pe_int (pv 12))) (pv 3))) (pss_cons (ps_set (i := 14) sc_add_jacobian.nd rfl (Or.inl rfl) (pe_op op_mod (pe_op op_sub (pe_op op_mulX (pv 9) (pe_op op_sub (pv 12) (pv 13))) (pe_op op_mulX (pv 5) (pv 11))) (pv 3))) (pss_one (ps_ret (pe_tup (pa_cons (pv 13) (pa_cons (pv 14) (pa_cons (pe_op op_mod (pe_op op_mulX (pe_op op_mulX (pv 8) (pe_ix (cr_ixT rfl) (pv 1) pe_int (fun _ _ => rfl))) (pe_ix (cr_ixT rfl) (pv 2) pe_int (fun _ _ => rfl))) (pv 3)) pa_nil))))))))))))))))))), ?_⟩
  rintro ⟨curve_, first_, second_, ⟨⟩⟩ F0 H0 Q KP L
  show Blk K F0 H0 KP _ [some (.im (toD curve_)), some (.im (toD first_)), some (.im (toD second_)), none, none, none, none, none, none, none, none, none, none, none, none] (m_add_jacobian curve_ first_ second_)
  unfold m_add_jacobian
  have ht_ := ((et_test (ev_op opx_eqI mild_ok (ev_ixTC (i := 2) (f := fun x => x.c) (ev_var (i := 1) (x := first_) rfl) (fun x => ⟨_, rfl, rfl⟩)) (ev_int (i := 0)))) : EvT K (W0 E) [some (.im (toD curve_)), some (.im (toD first_)), some (.im (toD second_)), none, none, none, none, none, none, none, none, none, none, none, none] _ _); replace ht_ : EvT K (W0 E) [some (.im (toD curve_)), some (.im (toD first_)), some (.im (toD second_)), none, none, none, none, none, none, none, none, none, none, none, none] _ ((Res.ok (decide (first_.c = (0 : Int))))) := ht_
  refine blk_seq (blk_if2 L trivial ht_ ?_ ?_)
  · have hr_ := ((ev_var (i := 2) (x := second_) rfl) : EvX K (W0 E) [some (.im (toD curve_)), some (.im (toD first_)), some (.im (toD second_)), none, none, none, none, none, none, none, none, none, none, none, none] _ _); replace hr_ : EvX K (W0 E) [some (.im (toD curve_)), some (.im (toD first_)), some (.im (toD second_)), none, none, none, none, none, none, none, none, none, none, none, none] _ (Res.ok second_ : Res (T3 Int Int Int)) := hr_
    exact blk_ret L trivial hr_
  · refine blk_nil ?_
    try refine Blk.nx ?_
    have ht_ := ((et_test (ev_op opx_eqI mild_ok (ev_ixTC (i := 2) (f := fun x => x.c) (ev_var (i := 2) (x := second_) rfl) (fun x => ⟨_, rfl, rfl⟩)) (ev_int (i := 0)))) : EvT K (W0 E) [some (.im (toD curve_)), some (.im (toD first_)), some (.im (toD second_)), none, none, none, none, none, none, none, none, none, none, none, none] _ _); replace ht_ : EvT K (W0 E) [some (.im (toD curve_)), some (.im (toD first_)), some (.im (toD second_)), none, none, none, none, none, none, none, none, none, none, none, none] _ ((Res.ok (decide (second_.c = (0 : Int))))) := ht_
    refine blk_seq (blk_if2 L trivial ht_ ?_ ?_)
    · have hr_ := ((ev_var (i := 1) (x := first_) rfl) : EvX K (W0 E) [some (.im (toD curve_)), some (.im (toD first_)), some (.im (toD second_)), none, none, none, none, none, none, none, none, none, none, none, none] _ _); replace hr_ : EvX K (W0 E) [some (.im (toD curve_)), some (.im (toD first_)), some (.im (toD second_)), none, none, none, none, none, none, none, none, none, none, none, none] _ (Res.ok first_ : Res (T3 Int Int Int)) := hr_
      exact blk_ret L trivial hr_
    · refine blk_nil ?_
      try refine Blk.nx ?_
      have hs_ := ((ev_fld (g := fun (x : O_Curve) => x.f_prime) (c := "Curve") (ks := ["prime", "a", "b"]) (j := 0) (ev_var (i := 0) (x := curve_) rfl) T.cl_Curve T.nf_Curve_prime (by decide +kernel) (fun _ => ⟨_, rfl, rfl⟩)) : EvX K (W0 E) [some (.im (toD curve_)), some (.im (toD first_)), some (.im (toD second_)), none, none, none, none, none, none, none, none, none, none, none, none] _ _); replace hs_ : EvX K (W0 E) [some (.im (toD curve_)), some (.im (toD first_)), some (.im (toD second_)), none, none, none, none, none, none, none, none, none, none, none, none] _ (Res.ok curve_.f_prime : Res Int) := hs_
      refine blk_seq (blk_set (i := 3) L trivial hs_ fun p_ => ?_)
      show Blk _ _ _ _ _ [some (.im (toD curve_)), some (.im (toD first_)), some (.im (toD second_)), some (.im (toD p_)), none, none, none, none, none, none, none, none, none, none, none] _
      try refine Blk.nx ?_
      have hs_ := ((ev_call (f := (fun (p : (T3 Int Int Int) × Int × Int × Unit) => m_u_scaled p.1 p.2.1 p.2.2.1)) (ea_cons (ev_var (i := 1) (x := first_) rfl) (ea_cons (ev_ixTC (i := 2) (f := fun x => x.c) (ev_var (i := 2) (x := second_) rfl) (fun x => ⟨_, rfl, rfl⟩)) (ea_cons (ev_var (i := 3) (x := p_) rfl) ea_nil)))) : EvX K (W0 E) [some (.im (toD curve_)), some (.im (toD first_)), some (.im (toD second_)), some (.im (toD p_)), none, none, none, none, none, none, none, none, none, none, none] _ _); replace hs_ : EvX K (W0 E) [some (.im (toD curve_)), some (.im (toD first_)), some (.im (toD second_)), some (.im (toD p_)), none, none, none, none, none, none, none, none, none, none, none] _ (m_u_scaled first_ second_.c p_) := hs_
      refine blk_seq (blk_asg L trivial hs_ (fun _ => (gx_tup (gxs_cons gx_name (gxs_cons gx_name gxs_nil)) rfl)) fun u165 => ?_)
      show Blk _ _ _ _ _ [some (.im (toD curve_)), some (.im (toD first_)), some (.im (toD second_)), some (.im (toD p_)), some (.im (toD u165.a)), some (.im (toD u165.b)), none, none, none, none, none, none, none, none, none] ((fun (u1_ : Int) (s1_ : Int) => _) u165.a u165.b)
      generalize u165.a = u1_
      generalize u165.b = s1_
      show Blk _ _ _ _ _ [some (.im (toD curve_)), some (.im (toD first_)), some (.im (toD second_)), some (.im (toD p_)), some (.im (toD u1_)), some (.im (toD s1_)), none, none, none, none, none, none, none, none, none] _
      try refine Blk.nx ?_
      have hs_ := ((ev_call (f := (fun (p : (T3 Int Int Int) × Int × Int × Unit) => m_u_scaled p.1 p.2.1 p.2.2.1)) (ea_cons (ev_var (i := 2) (x := second_) rfl) (ea_cons (ev_ixTC (i := 2) (f := fun x => x.c) (ev_var (i := 1) (x := first_) rfl) (fun x => ⟨_, rfl, rfl⟩)) (ea_cons (ev_var (i := 3) (x := p_) rfl) ea_nil)))) : EvX K (W0 E) [some (.im (toD curve_)), some (.im (toD first_)), some (.im (toD second_)), some (.im (toD p_)), some (.im (toD u1_)), some (.im (toD s1_)), none, none, none, none, none, none, none, none, none] _ _); replace hs_ : EvX K (W0 E) [some (.im (toD curve_)), some (.im (toD first_)), some (.im (toD second_)), some (.im (toD p_)), some (.im (toD u1_)), some (.im (toD s1_)), none, none, none, none, none, none, none, none, none] _ (m_u_scaled second_ first_.c p_) := hs_
      refine blk_seq (blk_asg L trivial hs_ (fun _ => (gx_tup (gxs_cons gx_name (gxs_cons gx_name gxs_nil)) rfl)) fun u166 => ?_)
      show Blk _ _ _ _ _ [some (.im (toD curve_)), some (.im (toD first_)), some (.im (toD second_)), some (.im (toD p_)), some (.im (toD u1_)), some (.im (toD s1_)), some (.im (toD u166.a)), some (.im (toD u166.b)), none, none, none, none, none, none, none] ((fun (u2_ : Int) (s2_ : Int) => _) u166.a u166.b)
      generalize u166.a = u2_
      generalize u166.b = s2_
      show Blk _ _ _ _ _ [some (.im (toD curve_)), some (.im (toD first_)), some (.im (toD second_)), some (.im (toD p_)), some (.im (toD u1_)), some (.im (toD s1_)), some (.im (toD u2_)), some (.im (toD s2_)), none, none, none, none, none, none, none] _
      try refine Blk.nx ?_
      have ht_ := ((et_test (ev_op opx_eqI mild_ok (ev_var (i := 4) (x := u1_) rfl) (ev_var (i := 6) (x := u2_) rfl))) : EvT K (W0 E) [some (.im (toD curve_)), some (.im (toD first_)), some (.im (toD second_)), some (.im (toD p_)), some (.im (toD u1_)), some (.im (toD s1_)), some (.im (toD u2_)), some (.im (toD s2_)), none, none, none, none, none, none, none] _ _); replace ht_ : EvT K (W0 E) [some (.im (toD curve_)), some (.im (toD first_)), some (.im (toD second_)), some (.im (toD p_)), some (.im (toD u1_)), some (.im (toD s1_)), some (.im (toD u2_)), some (.im (toD s2_)), none, none, none, none, none, none, none] _ ((Res.ok (decide (u1_ = u2_)))) := ht_
      refine blk_seq (blk_if2 L trivial ht_ ?_ ?_)
      · have hr_ := ((ev_if (et_test (ev_op opx_eqI mild_ok (ev_var (i := 5) (x := s1_) rfl) (ev_var (i := 7) (x := s2_) rfl))) (ev_call (f := (fun (p : O_Curve × (T3 Int Int Int) × Unit) => m_double_jacobian p.1 p.2.1)) (ea_cons (ev_var (i := 0) (x := curve_) rfl) (ea_cons (ev_var (i := 1) (x := first_) rfl) ea_nil))) (ev_con T.c_INFINITY)) : EvX K (W0 E) [some (.im (toD curve_)), some (.im (toD first_)), some (.im (toD second_)), some (.im (toD p_)), some (.im (toD u1_)), some (.im (toD s1_)), some (.im (toD u2_)), some (.im (toD s2_)), none, none, none, none, none, none, none] _ _); replace hr_ : EvX K (W0 E) [some (.im (toD curve_)), some (.im (toD first_)), some (.im (toD second_)), some (.im (toD p_)), some (.im (toD u1_)), some (.im (toD s1_)), some (.im (toD u2_)), some (.im (toD s2_)), none, none, none, none, none, none, none] _ (cond (decide (s1_ = s2_)) (m_double_jacobian curve_ first_) ((Res.ok k_INFINITY))) := hr_
        exact blk_ret L trivial hr_
      · refine blk_nil ?_
        try refine Blk.nx ?_
        have hs_ := ((ev_op (opx_I0 (g := fun i j => i - j)) mild_ok (ev_var (i := 6) (x := u2_) rfl) (ev_var (i := 4) (x := u1_) rfl)) : EvX K (W0 E) [some (.im (toD curve_)), some (.im (toD first_)), some (.im (toD second_)), some (.im (toD p_)), some (.im (toD u1_)), some (.im (toD s1_)), some (.im (toD u2_)), some (.im (toD s2_)), none, none, none, none, none, none, none] _ _); replace hs_ : EvX K (W0 E) [some (.im (toD curve_)), some (.im (toD first_)), some (.im (toD second_)), some (.im (toD p_)), some (.im (toD u1_)), some (.im (toD s1_)), some (.im (toD u2_)), some (.im (toD s2_)), none, none, none, none, none, none, none] _ (Res.ok (u2_ - u1_) : Res Int) := hs_
        refine blk_seq (blk_set (i := 8) L trivial hs_ fun h_ => ?_)
        show Blk _ _ _ _ _ [some (.im (toD curve_)), some (.im (toD first_)), some (.im (toD second_)), some (.im (toD p_)), some (.im (toD u1_)), some (.im (toD s1_)), some (.im (toD u2_)), some (.im (toD s2_)), some (.im (toD h_)), none, none, none, none, none, none] _
        try refine Blk.nx ?_
        have hs_ := ((ev_op (opx_I0 (g := fun i j => i - j)) mild_ok (ev_var (i := 7) (x := s2_) rfl) (ev_var (i := 5) (x := s1_) rfl)) : EvX K (W0 E) [some (.im (toD curve_)), some (.im (toD first_)), some (.im (toD second_)), some (.im (toD p_)), some (.im (toD u1_)), some (.im (toD s1_)), some (.im (toD u2_)), some (.im (toD s2_)), some (.im (toD h_)), none, none, none, none, none, none] _ _); replace hs_ : EvX K (W0 E) [some (.im (toD curve_)), some (.im (toD first_)), some (.im (toD second_)), some (.im (toD p_)), some (.im (toD u1_)), some (.im (toD s1_)), some (.im (toD u2_)), some (.im (toD s2_)), some (.im (toD h_)), none, none, none, none, none, none] _ (Res.ok (s2_ - s1_) : Res Int) := hs_
        refine blk_seq (blk_set (i := 9) L trivial hs_ fun r_ => ?_)
        show Blk _ _ _ _ _ [some (.im (toD curve_)), some (.im (toD first_)), some (.im (toD second_)), some (.im (toD p_)), some (.im (toD u1_)), some (.im (toD s1_)), some (.im (toD u2_)), some (.im (toD s2_)), some (.im (toD h_)), some (.im (toD r_)), none, none, none, none, none] _
        try refine Blk.nx ?_
        have hs_ := ((ev_op (opx_I (C := (fun _ j => 0 < j)) (g := fun i j => i % j)) mild_need (ev_op (opx_I (C := CMulX) (g := fun i j => i * j)) mild_need (ev_var (i := 8) (x := h_) rfl) (ev_var (i := 8) (x := h_) rfl)) (ev_var (i := 3) (x := p_) rfl)) : EvX K (W0 E) [some (.im (toD curve_)), some (.im (toD first_)), some (.im (toD second_)), some (.im (toD p_)), some (.im (toD u1_)), some (.im (toD s1_)), some (.im (toD u2_)), some (.im (toD s2_)), some (.im (toD h_)), some (.im (toD r_)), none, none, none, none, none] _ _); replace hs_ : EvX K (W0 E) [some (.im (toD curve_)), some (.im (toD first_)), some (.im (toD second_)), some (.im (toD p_)), some (.im (toD u1_)), some (.im (toD s1_)), some (.im (toD u2_)), some (.im (toD s2_)), some (.im (toD h_)), some (.im (toD r_)), none, none, none, none, none] _ ((Res.need (CMulX h_ h_) (Res.ok (h_ * h_))).bind fun (t167 : Int) => Res.need (0 < p_) (Res.ok (t167 % p_))) := hs_
        refine blk_seq (blk_set (i := 10) L trivial hs_ fun h_square_ => ?_)
        show Blk _ _ _ _ _ [some (.im (toD curve_)), some (.im (toD first_)), some (.im (toD second_)), some (.im (toD p_)), some (.im (toD u1_)), some (.im (toD s1_)), some (.im (toD u2_)), some (.im (toD s2_)), some (.im (toD h_)), some (.im (toD r_)), some (.im (toD h_square_)), none, none, none, none] _
        try refine Blk.nx ?_
        have hs_ := ((ev_op (opx_I (C := (fun _ j => 0 < j)) (g := fun i j => i % j)) mild_need (ev_op (opx_I (C := CMulX) (g := fun i j => i * j)) mild_need (ev_var (i := 8) (x := h_) rfl) (ev_var (i := 10) (x := h_square_) rfl)) (ev_var (i := 3) (x := p_) rfl)) : EvX K (W0 E) [some (.im (toD curve_)), some (.im (toD first_)), some (.im (toD second_)), some (.im (toD p_)), some (.im (toD u1_)), some (.im (toD s1_)), some (.im (toD u2_)), some (.im (toD s2_)), some (.im (toD h_)), some (.im (toD r_)), some (.im (toD h_square_)), none, none, none, none] _ _); replace hs_ : EvX K (W0 E) [some (.im (toD curve_)), some (.im (toD first_)), some (.im (toD second_)), some (.im (toD p_)), some (.im (toD u1_)), some (.im (toD s1_)), some (.im (toD u2_)), some (.im (toD s2_)), some (.im (toD h_)), some (.im (toD r_)), some (.im (toD h_square_)), none, none, none, none] _ ((Res.need (CMulX h_ h_square_) (Res.ok (h_ * h_square_))).bind fun (t168 : Int) => Res.need (0 < p_) (Res.ok (t168 % p_))) := hs_
        refine blk_seq (blk_set (i := 11) L trivial hs_ fun h_cube_ => ?_)
        show Blk _ _ _ _ _ [some (.im (toD curve_)), some (.im (toD first_)), some (.im (toD second_)), some (.im (toD p_)), some (.im (toD u1_)), some (.im (toD s1_)), some (.im (toD u2_)), some (.im (toD s2_)), some (.im (toD h_)), some (.im (toD r_)), some (.im (toD h_square_)), some (.im (toD h_cube_)), none, none, none] _
        try refine Blk.nx ?_
        have hs_ := ((ev_op (opx_I (C := (fun _ j => 0 < j)) (g := fun i j => i % j)) mild_need (ev_op (opx_I (C := CMulX) (g := fun i j => i * j)) mild_need (ev_var (i := 4) (x := u1_) rfl) (ev_var (i := 10) (x := h_square_) rfl)) (ev_var (i := 3) (x := p_) rfl)) : EvX K (W0 E) [some (.im (toD curve_)), some (.im (toD first_)), some (.im (toD second_)), some (.im (toD p_)), some (.im (toD u1_)), some (.im (toD s1_)), some (.im (toD u2_)), some (.im (toD s2_)), some (.im (toD h_)), some (.im (toD r_)), some (.im (toD h_square_)), some (.im (toD h_cube_)), none, none, none] _ _); replace hs_ : EvX K (W0 E) [some (.im (toD curve_)), some (.im (toD first_)), some (.im (toD second_)), some (.im (toD p_)), some (.im (toD u1_)), some (.im (toD s1_)), some (.im (toD u2_)), some (.im (toD s2_)), some (.im (toD h_)), some (.im (toD r_)), some (.im (toD h_square_)), some (.im (toD h_cube_)), none, none, none] _ ((Res.need (CMulX u1_ h_square_) (Res.ok (u1_ * h_square_))).bind fun (t169 : Int) => Res.need (0 < p_) (Res.ok (t169 % p_))) := hs_
        refine blk_seq (blk_set (i := 12) L trivial hs_ fun v_ => ?_)
        show Blk _ _ _ _ _ [some (.im (toD curve_)), some (.im (toD first_)), some (.im (toD second_)), some (.im (toD p_)), some (.im (toD u1_)), some (.im (toD s1_)), some (.im (toD u2_)), some (.im (toD s2_)), some (.im (toD h_)), some (.im (toD r_)), some (.im (toD h_square_)), some (.im (toD h_cube_)), some (.im (toD v_)), none, none] _
        try refine Blk.nx ?_
        have hs_ := ((ev_op (opx_I (C := (fun _ j => 0 < j)) (g := fun i j => i % j)) mild_need (ev_op (opx_I0 (g := fun i j => i - j)) mild_ok (ev_op (opx_I0 (g := fun i j => i - j)) mild_ok (ev_op (opx_I (C := CMulX) (g := fun i j => i * j)) mild_need (ev_var (i := 9) (x := r_) rfl) (ev_var (i := 9) (x := r_) rfl)) (ev_var (i := 11) (x := h_cube_) rfl)) (ev_opI (C := CMul) (g := fun i j => i * j) (fun x y h _ => by cases h; exact .inl (by decide)) (ev_int (i := 2)) (ev_var (i := 12) (x := v_) rfl))) (ev_var (i := 3) (x := p_) rfl)) : EvX K (W0 E) [some (.im (toD curve_)), some (.im (toD first_)), some (.im (toD second_)), some (.im (toD p_)), some (.im (toD u1_)), some (.im (toD s1_)), some (.im (toD u2_)), some (.im (toD s2_)), some (.im (toD h_)), some (.im (toD r_)), some (.im (toD h_square_)), some (.im (toD h_cube_)), some (.im (toD v_)), none, none] _ _); replace hs_ : EvX K (W0 E) [some (.im (toD curve_)), some (.im (toD first_)), some (.im (toD second_)), some (.im (toD p_)), some (.im (toD u1_)), some (.im (toD s1_)), some (.im (toD u2_)), some (.im (toD s2_)), some (.im (toD h_)), some (.im (toD r_)), some (.im (toD h_square_)), some (.im (toD h_cube_)), some (.im (toD v_)), none, none] _ ((((Res.need (CMulX r_ r_) (Res.ok (r_ * r_))).bind fun (t170 : Int) => Res.ok (t170 - h_cube_)).bind fun (t171 : Int) => Res.ok (t171 - ((2 : Int) * v_))).bind fun (t172 : Int) => Res.need (0 < p_) (Res.ok (t172 % p_))) := hs_
        refine blk_seq (blk_set (i := 13) L trivial hs_ fun x3_ => ?_)
        show Blk _ _ _ _ _ [some (.im (toD curve_)), some (.im (toD first_)), some (.im (toD second_)), some (.im (toD p_)), some (.im (toD u1_)), some (.im (toD s1_)), some (.im (toD u2_)), some (.im (toD s2_)), some (.im (toD h_)), some (.im (toD r_)), some (.im (toD h_square_)), some (.im (toD h_cube_)), some (.im (toD v_)), some (.im (toD x3_)), none] _
        try refine Blk.nx ?_
        have hs_ := ((ev_op (opx_I (C := (fun _ j => 0 < j)) (g := fun i j => i % j)) mild_need (ev_op (opx_I0 (g := fun i j => i - j)) mild_ok (ev_op (opx_I (C := CMulX) (g := fun i j => i * j)) mild_need (ev_var (i := 9) (x := r_) rfl) (ev_op (opx_I0 (g := fun i j => i - j)) mild_ok (ev_var (i := 12) (x := v_) rfl) (ev_var (i := 13) (x := x3_) rfl))) (ev_op (opx_I (C := CMulX) (g := fun i j => i * j)) mild_need (ev_var (i := 5) (x := s1_) rfl) (ev_var (i := 11) (x := h_cube_) rfl))) (ev_var (i := 3) (x := p_) rfl)) : EvX K (W0 E) [some (.im (toD curve_)), some (.im (toD first_)), some (.im (toD second_)), some (.im (toD p_)), some (.im (toD u1_)), some (.im (toD s1_)), some (.im (toD u2_)), some (.im (toD s2_)), some (.im (toD h_)), some (.im (toD r_)), some (.im (toD h_square_)), some (.im (toD h_cube_)), some (.im (toD v_)), some (.im (toD x3_)), none] _ _); replace hs_ : EvX K (W0 E) [some (.im (toD curve_)), some (.im (toD first_)), some (.im (toD second_)), some (.im (toD p_)), some (.im (toD u1_)), some (.im (toD s1_)), some (.im (toD u2_)), some (.im (toD s2_)), some (.im (toD h_)), some (.im (toD r_)), some (.im (toD h_square_)), some (.im (toD h_cube_)), some (.im (toD v_)), some (.im (toD x3_)), none] _ (((Res.need (CMulX r_ (v_ - x3_)) (Res.ok (r_ * (v_ - x3_)))).bind fun (t173 : Int) => (Res.need (CMulX s1_ h_cube_) (Res.ok (s1_ * h_cube_))).bind fun (t174 : Int) => Res.ok (t173 - t174)).bind fun (t175 : Int) => Res.need (0 < p_) (Res.ok (t175 % p_))) := hs_
        refine blk_seq (blk_set (i := 14) L trivial hs_ fun y3_ => ?_)
        show Blk _ _ _ _ _ [some (.im (toD curve_)), some (.im (toD first_)), some (.im (toD second_)), some (.im (toD p_)), some (.im (toD u1_)), some (.im (toD s1_)), some (.im (toD u2_)), some (.im (toD s2_)), some (.im (toD h_)), some (.im (toD r_)), some (.im (toD h_square_)), some (.im (toD h_cube_)), some (.im (toD v_)), some (.im (toD x3_)), some (.im (toD y3_))] _
        try refine Blk.nx ?_
        have hr_ := ((ev_tup (f := (fun y => T3.mk y.1 y.2.1 y.2.2.1)) (ea_cons (ev_var (i := 13) (x := x3_) rfl) (ea_cons (ev_var (i := 14) (x := y3_) rfl) (ea_cons (ev_op (opx_I (C := (fun _ j => 0 < j)) (g := fun i j => i % j)) mild_need (ev_op (opx_I (C := CMulX) (g := fun i j => i * j)) mild_need (ev_op (opx_I (C := CMulX) (g := fun i j => i * j)) mild_need (ev_var (i := 8) (x := h_) rfl) (ev_ixTC (i := 2) (f := fun x => x.c) (ev_var (i := 1) (x := first_) rfl) (fun x => ⟨_, rfl, rfl⟩))) (ev_ixTC (i := 2) (f := fun x => x.c) (ev_var (i := 2) (x := second_) rfl) (fun x => ⟨_, rfl, rfl⟩))) (ev_var (i := 3) (x := p_) rfl)) ea_nil))) (fun _ => rfl) (fun _ => by show 3 ≤ 100000; decide)) : EvX K (W0 E) [some (.im (toD curve_)), some (.im (toD first_)), some (.im (toD second_)), some (.im (toD p_)), some (.im (toD u1_)), some (.im (toD s1_)), some (.im (toD u2_)), some (.im (toD s2_)), some (.im (toD h_)), some (.im (toD r_)), some (.im (toD h_square_)), some (.im (toD h_cube_)), some (.im (toD v_)), some (.im (toD x3_)), some (.im (toD y3_))] _ _); replace hr_ : EvX K (W0 E) [some (.im (toD curve_)), some (.im (toD first_)), some (.im (toD second_)), some (.im (toD p_)), some (.im (toD u1_)), some (.im (toD s1_)), some (.im (toD u2_)), some (.im (toD s2_)), some (.im (toD h_)), some (.im (toD r_)), some (.im (toD h_square_)), some (.im (toD h_cube_)), some (.im (toD v_)), some (.im (toD x3_)), some (.im (toD y3_))] _ (((((((Res.need (CMulX h_ first_.c) (Res.ok (h_ * first_.c))).bind fun (t176 : Int) => Res.need (CMulX t176 second_.c) (Res.ok (t176 * second_.c))).bind fun (t177 : Int) => Res.need (0 < p_) (Res.ok (t177 % p_))).bind fun a178 => Res.ok (a178, ())).bind fun a181 => Res.ok (y3_, a181)).bind fun a183 => Res.ok (x3_, a183)).bind fun p184 => Res.ok (T3.mk p184.1 p184.2.1 p184.2.2.1)) := hr_
        exact blk_ret L trivial hr_
noncomputable def m_multiply_jacobian_l1 (curve_ : O_Curve) (start_ : (T3 Int Int Int)) (k1 : (T3 Int Int Int) → Res (Option (T2 Int Int))) : List Int → (T3 Int Int Int) → Res (Option (T2 Int Int))
  | [], s => k1 s
  | x189 :: r1, result_ =>   (fun (bit_ : Int) => (m_double_jacobian curve_ result_).bind fun (result_ : (T3 Int Int Int)) =>   ((Res.ok (decide (bit_ = (1 : Int))))).bind fun b => cond b   ((m_add_jacobian curve_ result_ start_).bind fun (result_ : (T3 Int Int Int)) =>   m_multiply_jacobian_l1 curve_ start_ k1 r1 result_)   (m_multiply_jacobian_l1 curve_ start_ k1 r1 result_)) x189
noncomputable def m_multiply_jacobian_k2 (curve_ : O_Curve) : (T3 Int Int Int) → Res (Option (T2 Int Int)) := fun result_ =>   m_from_jacobian curve_ result_
noncomputable def m_multiply_jacobian (curve_ : O_Curve) (factor_ : Int) (point_ : (Option (T2 Int Int))) : Res (Option (T2 Int Int)) :=
  (((cond (decide (factor_ < (0 : Int))) (m_Curve_negate curve_ point_) ((Res.ok point_))).bind fun a186 => Res.ok (a186, ())).bind fun p188 => m_to_jacobian p188.1).bind fun (start_ : (T3 Int Int Int)) =>   ((Res.ok k_INFINITY)).bind fun (result_ : (T3 Int Int Int)) =>   (m_bits_from_top (Int.natAbs factor_ : Int)).bind fun (xs190 : List Int) => m_multiply_jacobian_l1 curve_ start_ (m_multiply_jacobian_k2 curve_) xs190 result_
theorem ok_multiply_jacobian {P : Program} {w : World} {K : PySem.W.Frag} {mg : Str → Option Value} {base : Heap} (T : Facts P w K mg) {fd : FuncData} (F : FnP K "multiply_jacobian" "multiply_jacobian" s_multiply_jacobian (He.ga K "multiply_jacobian") fd) :
    FnOk P w K mg base (L2.CX P w) 4 (He.ga K "multiply_jacobian") fd ["curve", "factor", "point"] (spM K (fun (p : O_Curve × Int × (Option (T2 Int Int)) × Unit) => m_multiply_jacobian p.1 p.2.1 p.2.2.1)) := by
  obtain ⟨fd_Curve_negate, F_Curve_negate⟩ := T.d_Curve_negate
  have G_Curve_negate := ok_Curve_negate (P := P) (w := w) (base := base) T F_Curve_negate
  have b_Curve_negate : Binds K fd_Curve_negate ["self", "point"] [] := F_Curve_negate.bindsN fun _ _ _ _ _ _ us hl => match us, hl with | [_, _], _ => rfl
  obtain ⟨fd_add_jacobian, F_add_jacobian⟩ := T.d_add_jacobian
  have G_add_jacobian := ok_add_jacobian (P := P) (w := w) (base := base) T F_add_jacobian
  have b_add_jacobian : Binds K fd_add_jacobian ["curve", "first", "second"] [] := F_add_jacobian.bindsN fun _ _ _ _ _ _ us hl => match us, hl with | [_, _, _], _ => rfl
  obtain ⟨fd_bits_from_top, F_bits_from_top⟩ := T.d_bits_from_top
  have G_bits_from_top := ok_bits_from_top (P := P) (w := w) (base := base) T F_bits_from_top
  have b_bits_from_top : Binds K fd_bits_from_top ["number"] [] := F_bits_from_top.bindsN fun _ _ _ _ _ _ us hl => match us, hl with | [_], _ => rfl
  obtain ⟨fd_double_jacobian, F_double_jacobian⟩ := T.d_double_jacobian
  have G_double_jacobian := ok_double_jacobian (P := P) (w := w) (base := base) T F_double_jacobian
  have b_double_jacobian : Binds K fd_double_jacobian ["curve", "triple"] [] := F_double_jacobian.bindsN fun _ _ _ _ _ _ us hl => match us, hl with | [_, _], _ => rfl
  obtain ⟨fd_from_jacobian, F_from_jacobian⟩ := T.d_from_jacobian
  have G_from_jacobian := ok_from_jacobian (P := P) (w := w) (base := base) T F_from_jacobian
  have b_from_jacobian : Binds K fd_from_jacobian ["curve", "triple"] [] := F_from_jacobian.bindsN fun _ _ _ _ _ _ us hl => match us, hl with | [_, _], _ => rfl
  obtain ⟨fd_to_jacobian, F_to_jacobian⟩ := T.d_to_jacobian
  have G_to_jacobian := ok_to_jacobian (P := P) (w := w) (base := base) T F_to_jacobian
  have b_to_jacobian : Binds K fd_to_jacobian ["point"] [] := F_to_jacobian.bindsN fun _ _ _ _ _ _ us hl => match us, hl with | [_], _ => rfl
  refine fn_ok F sc_multiply_jacobian (fun y => rfl) (fun cdv A outer s H E hr => ?_)
  refine ⟨_, (pss_cons (ps_set (i := 3) sc_multiply_jacobian.nd rfl (Or.inl rfl) (pe_callS G_to_jacobian (hr.mono (by decide)) rfl T.g_to_jacobian F_to_jacobian.kp b_to_jacobian (fun σ => passAt (takes_of rfl rfl rfl rfl) σ) (pa_cons (pe_ifExp (pt_cmpR op_lt (pv 1) pe_int (nomark _)) (pe_methQ (pv 0) T.cl_Curve T.mt_Curve_negate G_Curve_negate (hr.mono (by decide)) b_Curve_negate (fun σ => passAt (takes_of rfl rfl rfl rfl) σ) (pa_cons (pv 2) pa_nil)) (pv 2)) pa_nil))) (pss_cons (ps_set (i := 4) sc_multiply_jacobian.nd rfl (Or.inl rfl) (pe_glob (v := T.c_INFINITY.v) rfl T.c_INFINITY.m T.c_INFINITY.r)) (pss_cons (ps_for (passes_of rfl) rfl (pi_list (pe_callS G_bits_from_top (hr.mono (by decide)) rfl T.g_bits_from_top F_bits_from_top.kp b_bits_from_top (fun σ => passAt (takes_of rfl rfl rfl rfl) σ) (pa_cons (pe_callB call_abs (by rfl) T.n_abs (by decide +kernel) (pa_cons (pv 1) pa_nil)) pa_nil))) (pg_name (i := 5) sc_multiply_jacobian.nd rfl (Or.inl rfl)) (pss_cons (ps_set (i := 4) sc_multiply_jacobian.nd rfl (Or.inl rfl) (pe_callS G_double_jacobian (hr.mono (by decide)) rfl T.g_double_jacobian F_double_jacobian.kp b_double_jacobian (fun σ => passAt (takes_of rfl rfl rfl rfl) σ) (pa_cons (pv 0) (pa_cons (pv 4) pa_nil)))) (pss_one (ps_if (pt_cmpR op_eq (pv 5) pe_int (nomark _)) (pss_one (ps_set (i := 4) sc_multiply_jacobian.nd rfl (Or.inl rfl) (pe_callS G_add_jacobian (hr.mono (by decide)) rfl T.g_add_jacobian F_add_jacobian.kp b_add_jacobian (fun σ => passAt (takes_of rfl rfl rfl rfl) σ) (pa_cons (pv 0) (pa_cons (pv 4) (pa_cons (pv 3) pa_nil)))))) pss_nil)))) (pss_one (ps_ret (pe_callS G_from_jacobian (hr.mono (by decide)) rfl T.g_from_jacobian F_from_jacobian.kp b_from_jacobian (fun σ => passAt (takes_of rfl rfl rfl rfl) σ) (pa_cons (pv 0) (pa_cons (pv 4) pa_nil)))))))), ?_⟩
  rintro ⟨curve_, factor_, point_, ⟨⟩⟩ F0 H0 Q KP L
  show Blk K F0 H0 KP _ [some (.im (toD curve_)), some (.im (toD factor_)), some (.im (toD point_)), none, none, none] (m_multiply_jacobian curve_ factor_ point_)
  unfold m_multiply_jacobian
  have hs_ := ((ev_call (f := (fun (p : (Option (T2 Int Int)) × Unit) => m_to_jacobian p.1)) (ea_cons (ev_if (et_test (ev_op (opx_B0 (g := fun i j => decide (i < j))) mild_ok (ev_var (i := 1) (x := factor_) rfl) (ev_int (i := 0)))) (ev_meth (c := "Curve") (m := "negate") (ks := ["prime", "a", "b"]) (f := (fun (p : O_Curve × (Option (T2 Int Int)) × Unit) => m_Curve_negate p.1 p.2.1)) (ev_var (i := 0) (x := curve_) rfl) (ea_cons (ev_var (i := 2) (x := point_) rfl) ea_nil) (by decide +kernel) (fun _ => ⟨_, rfl⟩)) (ev_var (i := 2) (x := point_) rfl)) ea_nil)) : EvX K (W0 E) [some (.im (toD curve_)), some (.im (toD factor_)), some (.im (toD point_)), none, none, none] _ _); replace hs_ : EvX K (W0 E) [some (.im (toD curve_)), some (.im (toD factor_)), some (.im (toD point_)), none, none, none] _ (((cond (decide (factor_ < (0 : Int))) (m_Curve_negate curve_ point_) ((Res.ok point_))).bind fun a186 => Res.ok (a186, ())).bind fun p188 => m_to_jacobian p188.1) := hs_
  refine blk_seq (blk_set (i := 3) L trivial hs_ fun start_ => ?_)
  show Blk _ _ _ _ _ [some (.im (toD curve_)), some (.im (toD factor_)), some (.im (toD point_)), some (.im (toD start_)), none, none] _
  try refine Blk.nx ?_
  have hs_ := ((ev_con T.c_INFINITY) : EvX K (W0 E) [some (.im (toD curve_)), some (.im (toD factor_)), some (.im (toD point_)), some (.im (toD start_)), none, none] _ _); replace hs_ : EvX K (W0 E) [some (.im (toD curve_)), some (.im (toD factor_)), some (.im (toD point_)), some (.im (toD start_)), none, none] _ (Res.ok k_INFINITY : Res (T3 Int Int Int)) := hs_
  refine blk_seq (blk_set (i := 4) L trivial hs_ fun result_ => ?_)
  show Blk _ _ _ _ _ [some (.im (toD curve_)), some (.im (toD factor_)), some (.im (toD point_)), some (.im (toD start_)), some (.im (toD result_)), none] _
  try refine Blk.nx ?_
  have hi_ := ((ei_list (ev_call (f := (fun (p : Int × Unit) => m_bits_from_top p.1)) (ea_cons (ev_cb cx_abs (fun _ _ h => nomatch h) (ea_cons (ev_var (i := 1) (x := factor_) rfl) ea_nil)) ea_nil))) : EvI K (W0 E) [some (.im (toD curve_)), some (.im (toD factor_)), some (.im (toD point_)), some (.im (toD start_)), some (.im (toD result_)), none] _ _); replace hi_ : EvI K (W0 E) [some (.im (toD curve_)), some (.im (toD factor_)), some (.im (toD point_)), some (.im (toD start_)), some (.im (toD result_)), none] _ (m_bits_from_top (Int.natAbs factor_ : Int)) := hi_
  refine blk_seq (blk_for (S := (T3 Int Int Int)) (m_multiply_jacobian_l1 curve_ start_ (m_multiply_jacobian_k2 curve_)) (m_multiply_jacobian_k2 curve_) (fun result_ => [some (.im (toD curve_)), some (.im (toD factor_)), some (.im (toD point_)), some (.im (toD start_)), some (.im (toD result_)), none]) result_ L trivial hi_ (fun _ => gx_name) (.same (.same (.same (.same (.same (.same .nil)))))) (fun _ => rfl) ?_ ?_)
  · intro F1 L1 hB1 x189 r1 s_ N_ hN1
    revert s_; intro result_
    show Blk _ _ _ _ _ [some (.im (toD curve_)), some (.im (toD factor_)), some (.im (toD point_)), some (.im (toD start_)), some (.im (toD result_)), some (.im (toD x189))] (m_multiply_jacobian_l1 curve_ start_ (m_multiply_jacobian_k2 curve_) (x189 :: r1) result_)
    rw [m_multiply_jacobian_l1]
    show Blk _ _ _ _ _ _ ((fun (bit_ : Int) => _) x189)
    generalize x189 = bit_
    show Blk _ _ _ _ _ [some (.im (toD curve_)), some (.im (toD factor_)), some (.im (toD point_)), some (.im (toD start_)), some (.im (toD result_)), some (.im (toD bit_))] _
    have hs_ := ((ev_call (f := (fun (p : O_Curve × (T3 Int Int Int) × Unit) => m_double_jacobian p.1 p.2.1)) (ea_cons (ev_var (i := 0) (x := curve_) rfl) (ea_cons (ev_var (i := 4) (x := result_) rfl) ea_nil))) : EvX K (W0 E) [some (.im (toD curve_)), some (.im (toD factor_)), some (.im (toD point_)), some (.im (toD start_)), some (.im (toD result_)), some (.im (toD bit_))] _ _); replace hs_ : EvX K (W0 E) [some (.im (toD curve_)), some (.im (toD factor_)), some (.im (toD point_)), some (.im (toD start_)), some (.im (toD result_)), some (.im (toD bit_))] _ (m_double_jacobian curve_ result_) := hs_
    refine blk_seq (blk_set (i := 4) L1 trivial hs_ fun result_ => ?_)
    show Blk _ _ _ _ _ [some (.im (toD curve_)), some (.im (toD factor_)), some (.im (toD point_)), some (.im (toD start_)), some (.im (toD result_)), some (.im (toD bit_))] _
    try refine Blk.nx ?_
    have ht_ := ((et_test (ev_op opx_eqI mild_ok (ev_var (i := 5) (x := bit_) rfl) (ev_int (i := 1)))) : EvT K (W0 E) [some (.im (toD curve_)), some (.im (toD factor_)), some (.im (toD point_)), some (.im (toD start_)), some (.im (toD result_)), some (.im (toD bit_))] _ _); replace ht_ : EvT K (W0 E) [some (.im (toD curve_)), some (.im (toD factor_)), some (.im (toD point_)), some (.im (toD start_)), some (.im (toD result_)), some (.im (toD bit_))] _ ((Res.ok (decide (bit_ = (1 : Int))))) := ht_
    refine blk_if2 L1 trivial ht_ ?_ ?_
    · have hs_ := ((ev_call (f := (fun (p : O_Curve × (T3 Int Int Int) × (T3 Int Int Int) × Unit) => m_add_jacobian p.1 p.2.1 p.2.2.1)) (ea_cons (ev_var (i := 0) (x := curve_) rfl) (ea_cons (ev_var (i := 4) (x := result_) rfl) (ea_cons (ev_var (i := 3) (x := start_) rfl) ea_nil)))) : EvX K (W0 E) [some (.im (toD curve_)), some (.im (toD factor_)), some (.im (toD point_)), some (.im (toD start_)), some (.im (toD result_)), some (.im (toD bit_))] _ _); replace hs_ : EvX K (W0 E) [some (.im (toD curve_)), some (.im (toD factor_)), some (.im (toD point_)), some (.im (toD start_)), some (.im (toD result_)), some (.im (toD bit_))] _ (m_add_jacobian curve_ result_ start_) := hs_
      refine blk_set (i := 4) L1 trivial hs_ fun result_ => ?_
      show Blk _ _ _ _ _ [some (.im (toD curve_)), some (.im (toD factor_)), some (.im (toD point_)), some (.im (toD start_)), some (.im (toD result_)), some (.im (toD bit_))] _
      try refine Blk.nx ?_
      exact (hN1 result_).weak (.same (.same (.same (.same (.same (.drop .nil))))))
    · refine blk_nil ?_
      try refine Blk.nx ?_
      exact (hN1 result_).weak (.same (.same (.same (.same (.same (.drop .nil))))))
  · intro result_
    show Blk _ _ _ _ _ [some (.im (toD curve_)), some (.im (toD factor_)), some (.im (toD point_)), some (.im (toD start_)), some (.im (toD result_)), none] ((m_multiply_jacobian_k2 curve_) result_)
    unfold m_multiply_jacobian_k2
    try refine Blk.nx ?_
    have hr_ := ((ev_call (f := (fun (p : O_Curve × (T3 Int Int Int) × Unit) => m_from_jacobian p.1 p.2.1)) (ea_cons (ev_var (i := 0) (x := curve_) rfl) (ea_cons (ev_var (i := 4) (x := result_) rfl) ea_nil))) : EvX K (W0 E) [some (.im (toD curve_)), some (.im (toD factor_)), some (.im (toD point_)), some (.im (toD start_)), some (.im (toD result_)), none] _ _); replace hr_ : EvX K (W0 E) [some (.im (toD curve_)), some (.im (toD factor_)), some (.im (toD point_)), some (.im (toD start_)), some (.im (toD result_)), none] _ (m_from_jacobian curve_ result_) := hr_
    exact blk_ret L trivial hr_
noncomputable def m_EdwardsCurve_init (prime_ : Int) (a_ : Int) (d_ : Int) : Res O_EdwardsCurve :=
  (cond (decide (prime_ < (3 : Int))) (Res.ok true) ((Res.ok (decide ((prime_ % (2 : Int)) = (0 : Int)))))).bind fun b => cond b   (Res.exc "OutOfRange")   (((m_square_class a_ prime_).bind fun (t191 : Int) => Res.ok (!decide (t191 = (1 : Int)))).bind fun b => cond b   (Res.exc "Refused")   (((m_square_class d_ prime_).bind fun (t192 : Int) => Res.ok (!decide (t192 = (-(1 : Int))))).bind fun b => cond b   (Res.exc "Refused")   (((Res.ok prime_)).bind fun (sf_prime : Int) =>   (Res.need (0 < prime_) (Res.ok (a_ % prime_))).bind fun (sf_a : Int) =>   (Res.need (0 < prime_) (Res.ok (d_ % prime_))).bind fun (sf_d : Int) =>   Res.ok (O_EdwardsCurve.mk sf_prime sf_a sf_d))))
theorem ok_EdwardsCurve_init {P : Program} {w : World} {K : PySem.W.Frag} {mg : Str → Option Value} {base : Heap} (T : Facts P w K mg) {fd : FuncData} (F : FnP K "__init__" "EdwardsCurve.__init__" s_EdwardsCurve_init (He.ma K (He.ga K "EdwardsCurve") "__init__") fd) :
    FnOk P w K mg base (L2.CX P w) 3 (He.ma K (He.ga K "EdwardsCurve") "__init__") fd ["self", "prime", "a", "d"] (spI K "EdwardsCurve" (fun (p : Int × Int × Int × Unit) => m_EdwardsCurve_init p.1 p.2.1 p.2.2.1)) := by
  obtain ⟨fd_square_class, F_square_class⟩ := T.d_square_class
  have G_square_class := ok_square_class (P := P) (w := w) (base := base) T F_square_class
  have b_square_class : Binds K fd_square_class ["a", "prime"] [] := F_square_class.bindsN fun _ _ _ _ _ _ us hl => match us, hl with | [_, _], _ => rfl
  refine fn_okI (c := "EdwardsCurve") F sc_EdwardsCurve_init (fun y => rfl) (fun cdv A outer s H E hr => ?_)
  refine ⟨_, (pss_cons (ps_if (PW.pt (pw_or (pt_cmpR op_lt (pv 1) pe_int (nomark _)) (pw_or1 (pt_cmpR op_eq (pe_op op_mod (pv 1) pe_int) pe_int (nomark _))))) (pss_one (ps_raise rfl (takes_of rfl rfl rfl rfl) (pmk_own PySem.F.excBase_ValueError T.x_OutOfRange T.g_OutOfRange T.k_OutOfRange (raises_own T.b_OutOfRange T.t_OutOfRange) rfl))) pss_nil) (pss_cons (ps_if (pt_cmpR op_ne (pe_callS G_square_class (hr.mono (by decide)) rfl T.g_square_class F_square_class.kp b_square_class (fun σ => passAt (takes_of rfl rfl rfl rfl) σ) (pa_cons (pv 2) (pa_cons (pv 1) pa_nil))) pe_int (nomark _)) (pss_one (ps_raise rfl (takes_of rfl rfl rfl rfl) (pmk_own PySem.F.excBase_ValueError T.x_Refused T.g_Refused T.k_Refused (raises_own T.b_Refused T.t_Refused) rfl))) pss_nil) (pss_cons (ps_if (pt_cmpR op_ne (pe_callS G_square_class (hr.mono (by decide)) rfl T.g_square_class F_square_class.kp b_square_class (fun σ => passAt (takes_of rfl rfl rfl rfl) σ) (pa_cons (pv 3) (pa_cons (pv 1) pa_nil))) (pe_un un_neg pe_int) (nomark _)) (pss_one (ps_raise rfl (takes_of rfl rfl rfl rfl) (pmk_own PySem.F.excBase_ValueError T.x_Refused T.g_Refused T.k_Refused (raises_own T.b_Refused T.t_Refused) rfl))) pss_nil) (pss_cons (ps_fld (pv 0) (pv 1) rfl) (pss_cons (ps_fld (pv 0) (pe_op op_mod (pv 2) (pv 1)) rfl) (pss_one (ps_fld (pv 0) (pe_op op_mod (pv 3) (pv 1)) rfl))))))), ?_⟩
  rintro ⟨prime_, a_, d_, ⟨⟩⟩ p_ F0 H0 Q KP L
  show Blk K F0 H0 KP _ [some (.oi (some p_) "EdwardsCurve" [] []), some (.im (toD prime_)), some (.im (toD a_)), some (.im (toD d_))] (m_EdwardsCurve_init prime_ a_ d_)
  unfold m_EdwardsCurve_init
  have ht_ := ((et_or (et_test (ev_op (opx_B0 (g := fun i j => decide (i < j))) mild_ok (ev_var (i := 1) (x := prime_) rfl) (ev_int (i := 3)))) (et_test (ev_op opx_eqI mild_ok (ev_opI (C := (fun _ j => 0 < j)) (g := fun i j => i % j) (fun x y _ h => by cases h; (show (0 : Int) < _; decide)) (ev_var (i := 1) (x := prime_) rfl) (ev_int (i := 2))) (ev_int (i := 0))))) : EvT K (W0 E) [some (.oi (some p_) "EdwardsCurve" [] []), some (.im (toD prime_)), some (.im (toD a_)), some (.im (toD d_))] _ _); replace ht_ : EvT K (W0 E) [some (.oi (some p_) "EdwardsCurve" [] []), some (.im (toD prime_)), some (.im (toD a_)), some (.im (toD d_))] _ (cond (decide (prime_ < (3 : Int))) (Res.ok true) ((Res.ok (decide ((prime_ % (2 : Int)) = (0 : Int)))))) := ht_
  refine blk_seq (blk_if2 L trivial ht_ ?_ ?_)
  · exact blk_raise L trivial
  · refine blk_nil ?_
    try refine Blk.nx ?_
    have ht_ := ((et_test (ev_op opx_neI mild_ok (ev_call (f := (fun (p : Int × Int × Unit) => m_square_class p.1 p.2.1)) (ea_cons (ev_var (i := 2) (x := a_) rfl) (ea_cons (ev_var (i := 1) (x := prime_) rfl) ea_nil))) (ev_int (i := 1)))) : EvT K (W0 E) [some (.oi (some p_) "EdwardsCurve" [] []), some (.im (toD prime_)), some (.im (toD a_)), some (.im (toD d_))] _ _); replace ht_ : EvT K (W0 E) [some (.oi (some p_) "EdwardsCurve" [] []), some (.im (toD prime_)), some (.im (toD a_)), some (.im (toD d_))] _ ((m_square_class a_ prime_).bind fun (t191 : Int) => Res.ok (!decide (t191 = (1 : Int)))) := ht_
    refine blk_seq (blk_if2 L trivial ht_ ?_ ?_)
    · exact blk_raise L trivial
    · refine blk_nil ?_
      try refine Blk.nx ?_
      have ht_ := ((et_test (ev_op opx_neI mild_ok (ev_call (f := (fun (p : Int × Int × Unit) => m_square_class p.1 p.2.1)) (ea_cons (ev_var (i := 3) (x := d_) rfl) (ea_cons (ev_var (i := 1) (x := prime_) rfl) ea_nil))) (ev_un (g := fun i => -i) (ev_int (i := 1))))) : EvT K (W0 E) [some (.oi (some p_) "EdwardsCurve" [] []), some (.im (toD prime_)), some (.im (toD a_)), some (.im (toD d_))] _ _); replace ht_ : EvT K (W0 E) [some (.oi (some p_) "EdwardsCurve" [] []), some (.im (toD prime_)), some (.im (toD a_)), some (.im (toD d_))] _ ((m_square_class d_ prime_).bind fun (t192 : Int) => Res.ok (!decide (t192 = (-(1 : Int))))) := ht_
      refine blk_seq (blk_if2 L trivial ht_ ?_ ?_)
      · exact blk_raise L trivial
      · refine blk_nil ?_
        try refine Blk.nx ?_
        have hs_ := ((ev_var (i := 1) (x := prime_) rfl) : EvX K (W0 E) [some (.oi (some p_) "EdwardsCurve" [] []), some (.im (toD prime_)), some (.im (toD a_)), some (.im (toD d_))] _ _); replace hs_ : EvX K (W0 E) [some (.oi (some p_) "EdwardsCurve" [] []), some (.im (toD prime_)), some (.im (toD a_)), some (.im (toD d_))] _ (Res.ok prime_ : Res Int) := hs_
        refine blk_seq (blk_fldN (i := 0) L trivial hs_ rfl T.cl_EdwardsCurve T.nf_EdwardsCurve_prime (by decide +kernel) (by decide) fun sf_prime => ?_)
        show Blk _ _ _ _ _ [some (.oi (some p_) "EdwardsCurve" ["prime"] [toD sf_prime]), some (.im (toD prime_)), some (.im (toD a_)), some (.im (toD d_))] _
        try refine Blk.nx ?_
        have hs_ := ((ev_op (opx_I (C := (fun _ j => 0 < j)) (g := fun i j => i % j)) mild_need (ev_var (i := 2) (x := a_) rfl) (ev_var (i := 1) (x := prime_) rfl)) : EvX K (W0 E) [some (.oi (some p_) "EdwardsCurve" ["prime"] [toD sf_prime]), some (.im (toD prime_)), some (.im (toD a_)), some (.im (toD d_))] _ _); replace hs_ : EvX K (W0 E) [some (.oi (some p_) "EdwardsCurve" ["prime"] [toD sf_prime]), some (.im (toD prime_)), some (.im (toD a_)), some (.im (toD d_))] _ (Res.need (0 < prime_) (Res.ok (a_ % prime_))) := hs_
        refine blk_seq (blk_fldN (i := 0) L trivial hs_ rfl T.cl_EdwardsCurve T.nf_EdwardsCurve_a (by decide +kernel) (by decide) fun sf_a => ?_)
        show Blk _ _ _ _ _ [some (.oi (some p_) "EdwardsCurve" ["prime", "a"] [toD sf_prime, toD sf_a]), some (.im (toD prime_)), some (.im (toD a_)), some (.im (toD d_))] _
        try refine Blk.nx ?_
        have hs_ := ((ev_op (opx_I (C := (fun _ j => 0 < j)) (g := fun i j => i % j)) mild_need (ev_var (i := 3) (x := d_) rfl) (ev_var (i := 1) (x := prime_) rfl)) : EvX K (W0 E) [some (.oi (some p_) "EdwardsCurve" ["prime", "a"] [toD sf_prime, toD sf_a]), some (.im (toD prime_)), some (.im (toD a_)), some (.im (toD d_))] _ _); replace hs_ : EvX K (W0 E) [some (.oi (some p_) "EdwardsCurve" ["prime", "a"] [toD sf_prime, toD sf_a]), some (.im (toD prime_)), some (.im (toD a_)), some (.im (toD d_))] _ (Res.need (0 < prime_) (Res.ok (d_ % prime_))) := hs_
        refine blk_fldN (i := 0) L trivial hs_ rfl T.cl_EdwardsCurve T.nf_EdwardsCurve_d (by decide +kernel) (by decide) fun sf_d => ?_
        show Blk _ _ _ _ _ [some (.oi (some p_) "EdwardsCurve" ["prime", "a", "d"] [toD sf_prime, toD sf_a, toD sf_d]), some (.im (toD prime_)), some (.im (toD a_)), some (.im (toD d_))] _
        try refine Blk.nx ?_
        exact blk_finI (i := 0) L rfl rfl
noncomputable def m_EdwardsCurve_has (self_ : O_EdwardsCurve) (point_ : D) : Res Bool :=
  ((m_is_residue_pair point_ self_.f_prime).bind fun (t193 : Bool) => Res.ok (!t193)).bind fun b => cond b   ((Res.ok false))   (((((((Res.ok point_)).bind D.asTu).bind fun (t194 : (Tu D)) => idx (t194).xs (0 : Int)).bind D.asInt).bind fun (t195 : Int) => Res.need (CPowX t195 (2 : Int)) (Res.ok (t195 ^ (2 : Int).toNat))).bind fun (p205 : Int) => ((((((Res.ok point_)).bind D.asTu).bind fun (t196 : (Tu D)) => idx (t196).xs (1 : Int)).bind D.asInt).bind fun (t197 : Int) => Res.need (CPowX t197 (2 : Int)) (Res.ok (t197 ^ (2 : Int).toNat))).bind fun (p206 : Int) =>   (fun (x_square_ : Int) (y_square_ : Int) => (((((Res.need (CMulX self_.f_a x_square_) (Res.ok (self_.f_a * x_square_))).bind fun (t198 : Int) => Res.ok (t198 + y_square_)).bind fun (t199 : Int) => Res.ok (t199 - (1 : Int))).bind fun (t201 : Int) => ((Res.need (CMulX self_.f_d x_square_) (Res.ok (self_.f_d * x_square_))).bind fun (t200 : Int) => Res.need (CMulX t200 y_square_) (Res.ok (t200 * y_square_))).bind fun (t202 : Int) => Res.ok (t201 - t202)).bind fun (t203 : Int) => Res.need (0 < self_.f_prime) (Res.ok (t203 % self_.f_prime))).bind fun (t204 : Int) => Res.ok (decide (t204 = (0 : Int)))) p205 p206)
theorem ok_EdwardsCurve_has {P : Program} {w : World} {K : PySem.W.Frag} {mg : Str → Option Value} {base : Heap} (T : Facts P w K mg) {fd : FuncData} (F : FnP K "has" "EdwardsCurve.has" s_EdwardsCurve_has (He.ma K (He.ga K "EdwardsCurve") "has") fd) :
    FnOk P w K mg base (L2.CX P w) 4 (He.ma K (He.ga K "EdwardsCurve") "has") fd ["self", "point"] (spM K (fun (p : O_EdwardsCurve × D × Unit) => m_EdwardsCurve_has p.1 p.2.1)) := by
  obtain ⟨fd_is_residue_pair, F_is_residue_pair⟩ := T.d_is_residue_pair
  have G_is_residue_pair := ok_is_residue_pair (P := P) (w := w) (base := base) T F_is_residue_pair
  have b_is_residue_pair : Binds K fd_is_residue_pair ["value", "modulus"] [] := F_is_residue_pair.bindsN fun _ _ _ _ _ _ us hl => match us, hl with | [_, _], _ => rfl
  refine fn_ok F sc_EdwardsCurve_has (fun y => rfl) (fun cdv A outer s H E hr => ?_)
  refine ⟨_, (pss_cons (ps_if (pt_not (pt_val (pe_callS G_is_residue_pair (hr.mono (by decide)) rfl T.g_is_residue_pair F_is_residue_pair.kp b_is_residue_pair (fun σ => passAt (takes_of rfl rfl rfl rfl) σ) (pa_cons (pv 1) (pa_cons (pe_fld (pv 0) rfl) pa_nil))))) (pss_one (ps_ret pe_bl)) pss_nil) (pss_cons (ps_par (i := 2) (j := 3) (by rfl) sc_EdwardsCurve_has.nd rfl rfl (by decide) rfl rfl (pa_cons (pe_op op_powX (pe_ix (cr_ixT rfl) (pv 1) pe_int (fun _ _ => rfl)) pe_int) (pa_cons (pe_op op_powX (pe_ix (cr_ixT rfl) (pv 1) pe_int (fun _ _ => rfl)) pe_int) pa_nil)) (by rfl)) (pss_one (ps_ret (pe_cmpR op_eq (pe_op op_mod (pe_op op_sub (pe_op op_sub (pe_op op_add (pe_op op_mulX (pe_fld (pv 0) rfl) (pv 2)) (pv 3)) pe_int) (pe_op op_mulX (pe_op op_mulX (pe_fld (pv 0) rfl) (pv 2)) (pv 3))) (pe_fld (pv 0) rfl)) pe_int (nomark _)))))), ?_⟩
  rintro ⟨self_, point_, ⟨⟩⟩ F0 H0 Q KP L
  show Blk K F0 H0 KP _ [some (.im (toD self_)), some (.im (toD point_)), none, none] (m_EdwardsCurve_has self_ point_)
  unfold m_EdwardsCurve_has
  have ht_ := ((et_not (et_B (ev_call (f := (fun (p : D × Int × Unit) => m_is_residue_pair p.1 p.2.1)) (ea_cons (ev_var (i := 1) (x := point_) rfl) (ea_cons (ev_fld (g := fun (x : O_EdwardsCurve) => x.f_prime) (c := "EdwardsCurve") (ks := ["prime", "a", "d"]) (j := 0) (ev_var (i := 0) (x := self_) rfl) T.cl_EdwardsCurve T.nf_EdwardsCurve_prime (by decide +kernel) (fun _ => ⟨_, rfl, rfl⟩)) ea_nil))))) : EvT K (W0 E) [some (.im (toD self_)), some (.im (toD point_)), none, none] _ _); replace ht_ : EvT K (W0 E) [some (.im (toD self_)), some (.im (toD point_)), none, none] _ ((m_is_residue_pair point_ self_.f_prime).bind fun (t193 : Bool) => Res.ok (!t193)) := ht_
  refine blk_seq (blk_if2 L trivial ht_ ?_ ?_)
  · have hr_ := ((ev_bl (b := false)) : EvX K (W0 E) [some (.im (toD self_)), some (.im (toD point_)), none, none] _ _); replace hr_ : EvX K (W0 E) [some (.im (toD self_)), some (.im (toD point_)), none, none] _ (Res.ok false : Res Bool) := hr_
    exact blk_ret L trivial hr_
  · refine blk_nil ?_
    try refine Blk.nx ?_
    have ha_ := ((ev_op (opx_I (C := CPowX) (g := fun i j => i ^ j.toNat)) mild_need (ev_cast (f := D.asInt) asInt_ok asInt_x (ev_op opx_ixT (fun x y => idx_mild x.xs y) (ev_cast (f := D.asTu) asTu_ok asTu_x (ev_var (i := 1) (x := point_) rfl)) (ev_int (i := 0)))) (ev_int (i := 2))) : EvX K (W0 E) [some (.im (toD self_)), some (.im (toD point_)), none, none] _ _); replace ha_ : EvX K (W0 E) [some (.im (toD self_)), some (.im (toD point_)), none, none] _ ((((((Res.ok point_)).bind D.asTu).bind fun (t194 : (Tu D)) => idx (t194).xs (0 : Int)).bind D.asInt).bind fun (t195 : Int) => Res.need (CPowX t195 (2 : Int)) (Res.ok (t195 ^ (2 : Int).toNat))) := ha_
    have hb_ := ((ev_op (opx_I (C := CPowX) (g := fun i j => i ^ j.toNat)) mild_need (ev_cast (f := D.asInt) asInt_ok asInt_x (ev_op opx_ixT (fun x y => idx_mild x.xs y) (ev_cast (f := D.asTu) asTu_ok asTu_x (ev_var (i := 1) (x := point_) rfl)) (ev_int (i := 1)))) (ev_int (i := 2))) : EvX K (W0 E) [some (.im (toD self_)), some (.im (toD point_)), none, none] _ _); replace hb_ : EvX K (W0 E) [some (.im (toD self_)), some (.im (toD point_)), none, none] _ ((((((Res.ok point_)).bind D.asTu).bind fun (t196 : (Tu D)) => idx (t196).xs (1 : Int)).bind D.asInt).bind fun (t197 : Int) => Res.need (CPowX t197 (2 : Int)) (Res.ok (t197 ^ (2 : Int).toNat))) := hb_
    refine blk_seq (blk_par (i := 2) (j := 3) L trivial ha_ hb_ fun x_square_ y_square_ => ?_)
    show Blk _ _ _ _ _ [some (.im (toD self_)), some (.im (toD point_)), some (.im (toD x_square_)), some (.im (toD y_square_))] _
    try refine Blk.nx ?_
    have hr_ := ((ev_op opx_eqI mild_ok (ev_op (opx_I (C := (fun _ j => 0 < j)) (g := fun i j => i % j)) mild_need (ev_op (opx_I0 (g := fun i j => i - j)) mild_ok (ev_op (opx_I0 (g := fun i j => i - j)) mild_ok (ev_op (opx_I0 (g := fun i j => i + j)) mild_ok (ev_op (opx_I (C := CMulX) (g := fun i j => i * j)) mild_need (ev_fld (g := fun (x : O_EdwardsCurve) => x.f_a) (c := "EdwardsCurve") (ks := ["prime", "a", "d"]) (j := 1) (ev_var (i := 0) (x := self_) rfl) T.cl_EdwardsCurve T.nf_EdwardsCurve_a (by decide +kernel) (fun _ => ⟨_, rfl, rfl⟩)) (ev_var (i := 2) (x := x_square_) rfl)) (ev_var (i := 3) (x := y_square_) rfl)) (ev_int (i := 1))) (ev_op (opx_I (C := CMulX) (g := fun i j => i * j)) mild_need (ev_op (opx_I (C := CMulX) (g := fun i j => i * j)) mild_need (ev_fld (g := fun (x : O_EdwardsCurve) => x.f_d) (c := "EdwardsCurve") (ks := ["prime", "a", "d"]) (j := 2) (ev_var (i := 0) (x := self_) rfl) T.cl_EdwardsCurve T.nf_EdwardsCurve_d (by decide +kernel) (fun _ => ⟨_, rfl, rfl⟩)) (ev_var (i := 2) (x := x_square_) rfl)) (ev_var (i := 3) (x := y_square_) rfl))) (ev_fld (g := fun (x : O_EdwardsCurve) => x.f_prime) (c := "EdwardsCurve") (ks := ["prime", "a", "d"]) (j := 0) (ev_var (i := 0) (x := self_) rfl) T.cl_EdwardsCurve T.nf_EdwardsCurve_prime (by decide +kernel) (fun _ => ⟨_, rfl, rfl⟩))) (ev_int (i := 0))) : EvX K (W0 E) [some (.im (toD self_)), some (.im (toD point_)), some (.im (toD x_square_)), some (.im (toD y_square_))] _ _); replace hr_ : EvX K (W0 E) [some (.im (toD self_)), some (.im (toD point_)), some (.im (toD x_square_)), some (.im (toD y_square_))] _ ((((((Res.need (CMulX self_.f_a x_square_) (Res.ok (self_.f_a * x_square_))).bind fun (t198 : Int) => Res.ok (t198 + y_square_)).bind fun (t199 : Int) => Res.ok (t199 - (1 : Int))).bind fun (t201 : Int) => ((Res.need (CMulX self_.f_d x_square_) (Res.ok (self_.f_d * x_square_))).bind fun (t200 : Int) => Res.need (CMulX t200 y_square_) (Res.ok (t200 * y_square_))).bind fun (t202 : Int) => Res.ok (t201 - t202)).bind fun (t203 : Int) => Res.need (0 < self_.f_prime) (Res.ok (t203 % self_.f_prime))).bind fun (t204 : Int) => Res.ok (decide (t204 = (0 : Int)))) := hr_
    exact blk_ret L trivial hr_
noncomputable def m_to_extended (curve_ : O_EdwardsCurve) (point_ : (T2 Int Int)) : Res (T4 Int Int Int Int) :=
  ((Res.ok point_)).bind fun (u207 : (T2 Int Int)) =>   (fun (x_ : Int) (y_ : Int) => ((((((Res.need (CMulX x_ y_) (Res.ok (x_ * y_))).bind fun (t208 : Int) => Res.need (0 < curve_.f_prime) (Res.ok (t208 % curve_.f_prime))).bind fun a209 => Res.ok (a209, ())).bind fun a212 => Res.ok ((1 : Int), a212)).bind fun a214 => Res.ok (y_, a214)).bind fun a216 => Res.ok (x_, a216)).bind fun p217 => Res.ok (T4.mk p217.1 p217.2.1 p217.2.2.1 p217.2.2.2.1)) u207.a u207.b
theorem ok_to_extended {P : Program} {w : World} {K : PySem.W.Frag} {mg : Str → Option Value} {base : Heap} (T : Facts P w K mg) {fd : FuncData} (F : FnP K "to_extended" "to_extended" s_to_extended (He.ga K "to_extended") fd) :
    FnOk P w K mg base (L2.CX P w) 1 (He.ga K "to_extended") fd ["curve", "point"] (spM K (fun (p : O_EdwardsCurve × (T2 Int Int) × Unit) => m_to_extended p.1 p.2.1)) := by
  refine fn_ok F sc_to_extended (fun y => rfl) (fun cdv A outer s H E hr => ?_)
  refine ⟨_, (pss_cons (ps_asg (pv 1) (pg_tup rfl (pgs_cons (pg_name (i := 2) sc_to_extended.nd rfl (Or.inl rfl)) (pgs_cons (pg_name (i := 3) sc_to_extended.nd rfl (Or.inl rfl)) pgs_nil)))) (pss_one (ps_ret (pe_tup (pa_cons (pv 2) (pa_cons (pv 3) (pa_cons pe_int (pa_cons (pe_op op_mod (pe_op op_mulX (pv 2) (pv 3)) (pe_fld (pv 0) rfl)) pa_nil)))))))), ?_⟩
  rintro ⟨curve_, point_, ⟨⟩⟩ F0 H0 Q KP L
  show Blk K F0 H0 KP _ [some (.im (toD curve_)), some (.im (toD point_)), none, none] (m_to_extended curve_ point_)
  unfold m_to_extended
  have hs_ := ((ev_var (i := 1) (x := point_) rfl) : EvX K (W0 E) [some (.im (toD curve_)), some (.im (toD point_)), none, none] _ _); replace hs_ : EvX K (W0 E) [some (.im (toD curve_)), some (.im (toD point_)), none, none] _ (Res.ok point_ : Res (T2 Int Int)) := hs_
  refine blk_seq (blk_asg L trivial hs_ (fun _ => (gx_tup (gxs_cons gx_name (gxs_cons gx_name gxs_nil)) rfl)) fun u207 => ?_)
  show Blk _ _ _ _ _ [some (.im (toD curve_)), some (.im (toD point_)), some (.im (toD u207.a)), some (.im (toD u207.b))] ((fun (x_ : Int) (y_ : Int) => _) u207.a u207.b)
  generalize u207.a = x_
  generalize u207.b = y_
  show Blk _ _ _ _ _ [some (.im (toD curve_)), some (.im (toD point_)), some (.im (toD x_)), some (.im (toD y_))] _
  try refine Blk.nx ?_
  have hr_ := ((ev_tup (f := (fun y => T4.mk y.1 y.2.1 y.2.2.1 y.2.2.2.1)) (ea_cons (ev_var (i := 2) (x := x_) rfl) (ea_cons (ev_var (i := 3) (x := y_) rfl) (ea_cons (ev_int (i := 1)) (ea_cons (ev_op (opx_I (C := (fun _ j => 0 < j)) (g := fun i j => i % j)) mild_need (ev_op (opx_I (C := CMulX) (g := fun i j => i * j)) mild_need (ev_var (i := 2) (x := x_) rfl) (ev_var (i := 3) (x := y_) rfl)) (ev_fld (g := fun (x : O_EdwardsCurve) => x.f_prime) (c := "EdwardsCurve") (ks := ["prime", "a", "d"]) (j := 0) (ev_var (i := 0) (x := curve_) rfl) T.cl_EdwardsCurve T.nf_EdwardsCurve_prime (by decide +kernel) (fun _ => ⟨_, rfl, rfl⟩))) ea_nil)))) (fun _ => rfl) (fun _ => by show 4 ≤ 100000; decide)) : EvX K (W0 E) [some (.im (toD curve_)), some (.im (toD point_)), some (.im (toD x_)), some (.im (toD y_))] _ _); replace hr_ : EvX K (W0 E) [some (.im (toD curve_)), some (.im (toD point_)), some (.im (toD x_)), some (.im (toD y_))] _ (((((((Res.need (CMulX x_ y_) (Res.ok (x_ * y_))).bind fun (t208 : Int) => Res.need (0 < curve_.f_prime) (Res.ok (t208 % curve_.f_prime))).bind fun a209 => Res.ok (a209, ())).bind fun a212 => Res.ok ((1 : Int), a212)).bind fun a214 => Res.ok (y_, a214)).bind fun a216 => Res.ok (x_, a216)).bind fun p217 => Res.ok (T4.mk p217.1 p217.2.1 p217.2.2.1 p217.2.2.2.1)) := hr_
  exact blk_ret L trivial hr_
noncomputable def m_from_extended (curve_ : O_EdwardsCurve) (four_ : (T4 Int Int Int Int)) : Res (T2 Int Int) :=
  (m_inverse four_.c curve_.f_prime).bind fun (scale_ : Int) =>   (((Res.need (CMulX four_.a scale_) (Res.ok (four_.a * scale_))).bind fun (t218 : Int) => Res.need (0 < curve_.f_prime) (Res.ok (t218 % curve_.f_prime))).bind fun a222 => (((Res.need (CMulX four_.b scale_) (Res.ok (four_.b * scale_))).bind fun (t219 : Int) => Res.need (0 < curve_.f_prime) (Res.ok (t219 % curve_.f_prime))).bind fun a220 => Res.ok (a220, ())).bind fun a223 => Res.ok (a222, a223)).bind fun p224 => Res.ok (T2.mk p224.1 p224.2.1)
theorem ok_from_extended {P : Program} {w : World} {K : PySem.W.Frag} {mg : Str → Option Value} {base : Heap} (T : Facts P w K mg) {fd : FuncData} (F : FnP K "from_extended" "from_extended" s_from_extended (He.ga K "from_extended") fd) :
    FnOk P w K mg base (L2.CX P w) 3 (He.ga K "from_extended") fd ["curve", "four"] (spM K (fun (p : O_EdwardsCurve × (T4 Int Int Int Int) × Unit) => m_from_extended p.1 p.2.1)) := by
  obtain ⟨fd_inverse, F_inverse⟩ := T.d_inverse
  have G_inverse := ok_inverse (P := P) (w := w) (base := base) T F_inverse
  have b_inverse : Binds K fd_inverse ["a", "modulus"] [] := F_inverse.bindsN fun _ _ _ _ _ _ us hl => match us, hl with | [_, _], _ => rfl
  refine fn_ok F sc_from_extended (fun y => rfl) (fun cdv A outer s H E hr => ?_)
  refine ⟨_, (pss_cons (ps_set (i := 2) sc_from_extended.nd rfl (Or.inl rfl) (pe_callS G_inverse (hr.mono (by decide)) rfl T.g_inverse F_inverse.kp b_inverse (fun σ => passAt (takes_of rfl rfl rfl rfl) σ) (pa_cons (pe_ix (cr_ixT rfl) (pv 1) pe_int (fun _ _ => rfl)) (pa_cons (pe_fld (pv 0) rfl) pa_nil)))) (pss_one (ps_ret (pe_tup (pa_cons (pe_op op_mod (pe_op op_mulX (pe_ix (cr_ixT rfl) (pv 1) pe_int (fun _ _ => rfl)) (pv 2)) (pe_fld (pv 0) rfl)) (pa_cons (pe_op op_mod (pe_op op_mulX (pe_ix (cr_ixT rfl) (pv 1) pe_int (fun _ _ => rfl)) (pv 2)) (pe_fld (pv 0) rfl)) pa_nil)))))), ?_⟩
  rintro ⟨curve_, four_, ⟨⟩⟩ F0 H0 Q KP L
  show Blk K F0 H0 KP _ [some (.im (toD curve_)), some (.im (toD four_)), none] (m_from_extended curve_ four_)
  unfold m_from_extended
  have hs_ := ((ev_call (f := (fun (p : Int × Int × Unit) => m_inverse p.1 p.2.1)) (ea_cons (ev_ixTC (i := 2) (f := fun x => x.c) (ev_var (i := 1) (x := four_) rfl) (fun x => ⟨_, rfl, rfl⟩)) (ea_cons (ev_fld (g := fun (x : O_EdwardsCurve) => x.f_prime) (c := "EdwardsCurve") (ks := ["prime", "a", "d"]) (j := 0) (ev_var (i := 0) (x := curve_) rfl) T.cl_EdwardsCurve T.nf_EdwardsCurve_prime (by decide +kernel) (fun _ => ⟨_, rfl, rfl⟩)) ea_nil))) : EvX K (W0 E) [some (.im (toD curve_)), some (.im (toD four_)), none] _ _); replace hs_ : EvX K (W0 E) [some (.im (toD curve_)), some (.im (toD four_)), none] _ (m_inverse four_.c curve_.f_prime) := hs_
  refine blk_seq (blk_set (i := 2) L trivial hs_ fun scale_ => ?_)
  show Blk _ _ _ _ _ [some (.im (toD curve_)), some (.im (toD four_)), some (.im (toD scale_))] _
  try refine Blk.nx ?_
  have hr_ := ((ev_tup (f := (fun y => T2.mk y.1 y.2.1)) (ea_cons (ev_op (opx_I (C := (fun _ j => 0 < j)) (g := fun i j => i % j)) mild_need (ev_op (opx_I (C := CMulX) (g := fun i j => i * j)) mild_need (ev_ixTC (i := 0) (f := fun x => x.a) (ev_var (i := 1) (x := four_) rfl) (fun x => ⟨_, rfl, rfl⟩)) (ev_var (i := 2) (x := scale_) rfl)) (ev_fld (g := fun (x : O_EdwardsCurve) => x.f_prime) (c := "EdwardsCurve") (ks := ["prime", "a", "d"]) (j := 0) (ev_var (i := 0) (x := curve_) rfl) T.cl_EdwardsCurve T.nf_EdwardsCurve_prime (by decide +kernel) (fun _ => ⟨_, rfl, rfl⟩))) (ea_cons (ev_op (opx_I (C := (fun _ j => 0 < j)) (g := fun i j => i % j)) mild_need (ev_op (opx_I (C := CMulX) (g := fun i j => i * j)) mild_need (ev_ixTC (i := 1) (f := fun x => x.b) (ev_var (i := 1) (x := four_) rfl) (fun x => ⟨_, rfl, rfl⟩)) (ev_var (i := 2) (x := scale_) rfl)) (ev_fld (g := fun (x : O_EdwardsCurve) => x.f_prime) (c := "EdwardsCurve") (ks := ["prime", "a", "d"]) (j := 0) (ev_var (i := 0) (x := curve_) rfl) T.cl_EdwardsCurve T.nf_EdwardsCurve_prime (by decide +kernel) (fun _ => ⟨_, rfl, rfl⟩))) ea_nil)) (fun _ => rfl) (fun _ => by show 2 ≤ 100000; decide)) : EvX K (W0 E) [some (.im (toD curve_)), some (.im (toD four_)), some (.im (toD scale_))] _ _); replace hr_ : EvX K (W0 E) [some (.im (toD curve_)), some (.im (toD four_)), some (.im (toD scale_))] _ ((((Res.need (CMulX four_.a scale_) (Res.ok (four_.a * scale_))).bind fun (t218 : Int) => Res.need (0 < curve_.f_prime) (Res.ok (t218 % curve_.f_prime))).bind fun a222 => (((Res.need (CMulX four_.b scale_) (Res.ok (four_.b * scale_))).bind fun (t219 : Int) => Res.need (0 < curve_.f_prime) (Res.ok (t219 % curve_.f_prime))).bind fun a220 => Res.ok (a220, ())).bind fun a223 => Res.ok (a222, a223)).bind fun p224 => Res.ok (T2.mk p224.1 p224.2.1)) := hr_
  exact blk_ret L trivial hr_
noncomputable def m_add_extended (curve_ : O_EdwardsCurve) (first_ : (T4 Int Int Int Int)) (second_ : (T4 Int Int Int Int)) : Res (T4 Int Int Int Int) :=
  ((Res.ok first_)).bind fun (u225 : (T4 Int Int Int Int)) =>   (fun (x1_ : Int) (y1_ : Int) (z1_ : Int) (t1_ : Int) => ((Res.ok second_)).bind fun (u226 : (T4 Int Int Int Int)) =>   (fun (x2_ : Int) (y2_ : Int) (z2_ : Int) (t2_ : Int) => ((Res.ok curve_.f_prime)).bind fun (p_ : Int) =>   (Res.need (CMulX z1_ z2_) (Res.ok (z1_ * z2_))).bind fun (zz_ : Int) =>   (((Res.need (CMulX curve_.f_d t1_) (Res.ok (curve_.f_d * t1_))).bind fun (t227 : Int) => Res.need (CMulX t227 t2_) (Res.ok (t227 * t2_))).bind fun (t228 : Int) => Res.need (0 < p_) (Res.ok (t228 % p_))).bind fun (dtt_ : Int) =>   (((Res.need (CMulX x1_ y2_) (Res.ok (x1_ * y2_))).bind fun (t229 : Int) => (Res.need (CMulX y1_ x2_) (Res.ok (y1_ * x2_))).bind fun (t230 : Int) => Res.ok (t229 + t230)).bind fun (t231 : Int) => Res.need (0 < p_) (Res.ok (t231 % p_))).bind fun (e_ : Int) =>   (Res.need (0 < p_) (Res.ok ((zz_ - dtt_) % p_))).bind fun (f_ : Int) =>   (Res.need (0 < p_) (Res.ok ((zz_ + dtt_) % p_))).bind fun (g_ : Int) =>   (((Res.need (CMulX y1_ y2_) (Res.ok (y1_ * y2_))).bind fun (t233 : Int) => ((Res.need (CMulX curve_.f_a x1_) (Res.ok (curve_.f_a * x1_))).bind fun (t232 : Int) => Res.need (CMulX t232 x2_) (Res.ok (t232 * x2_))).bind fun (t234 : Int) => Res.ok (t233 - t234)).bind fun (t235 : Int) => Res.need (0 < p_) (Res.ok (t235 % p_))).bind fun (h_ : Int) =>   (((Res.need (CMulX e_ f_) (Res.ok (e_ * f_))).bind fun (t236 : Int) => Res.need (0 < p_) (Res.ok (t236 % p_))).bind fun a246 => (((Res.need (CMulX g_ h_) (Res.ok (g_ * h_))).bind fun (t237 : Int) => Res.need (0 < p_) (Res.ok (t237 % p_))).bind fun a244 => (((Res.need (CMulX f_ g_) (Res.ok (f_ * g_))).bind fun (t238 : Int) => Res.need (0 < p_) (Res.ok (t238 % p_))).bind fun a242 => (((Res.need (CMulX e_ h_) (Res.ok (e_ * h_))).bind fun (t239 : Int) => Res.need (0 < p_) (Res.ok (t239 % p_))).bind fun a240 => Res.ok (a240, ())).bind fun a243 => Res.ok (a242, a243)).bind fun a245 => Res.ok (a244, a245)).bind fun a247 => Res.ok (a246, a247)).bind fun p248 => Res.ok (T4.mk p248.1 p248.2.1 p248.2.2.1 p248.2.2.2.1)) u226.a u226.b u226.c u226.e) u225.a u225.b u225.c u225.e
theorem ok_add_extended {P : Program} {w : World} {K : PySem.W.Frag} {mg : Str → Option Value} {base : Heap} (T : Facts P w K mg) {fd : FuncData} (F : FnP K "add_extended" "add_extended" s_add_extended (He.ga K "add_extended") fd) :
    FnOk P w K mg base (L2.CX P w) 1 (He.ga K "add_extended") fd ["curve", "first", "second"] (spM K (fun (p : O_EdwardsCurve × (T4 Int Int Int Int) × (T4 Int Int Int Int) × Unit) => m_add_extended p.1 p.2.1 p.2.2.1)) := by
  refine fn_ok F sc_add_extended (fun y => rfl) (fun cdv A outer s H E hr => ?_)
  refine ⟨_, (pss_cons (ps_asg (pv 1) (pg_tup rfl (pgs_cons (pg_name (i := 3) sc_add_extended.nd rfl (Or.inl rfl)) (pgs_cons (pg_name (i := 4) sc_add_extended.nd rfl (Or.inl rfl)) (pgs_cons (pg_name (i := 5) sc_add_extended.nd rfl (Or.inl rfl)) (pgs_cons (pg_name (i := 6) sc_add_extended.nd rfl (Or.inl rfl)) pgs_nil)))))) (pss_cons (ps_asg (pv 2) (pg_tup rfl (pgs_cons (pg_name (i := 7) sc_add_extended.nd rfl (Or.inl rfl)) (pgs_cons (pg_name (i := 8) sc_add_extended.nd rfl (Or.inl rfl)) (pgs_cons (pg_name (i := 9) sc_add_extended.nd rfl (Or.inl rfl)) (pgs_cons (pg_name (i := 10) sc_add_extended.nd rfl (Or.inl rfl)) pgs_nil)))))) (pss_cons (ps_set (i := 11) sc_add_extended.nd rfl (Or.inl rfl) (pe_fld (pv 0) rfl)) (pss_cons (ps_set (i := 12) sc_add_extended.nd rfl (Or.inl rfl) (pe_op op_mulX (pv 5) (pv 9))) (pss_cons (ps_set (i := 13) sc_add_extended.nd rfl (Or.inl rfl) (pe_op op_mod (pe_op op_mulX (pe_op op_mulX (pe_fld (pv 0) rfl) (pv 6)) (pv 10)) (pv 11))) (pss_cons (ps_set (i := 14) sc_add_extended.nd rfl (Or.inl rfl) (pe_op op_mod (pe_op op_add (pe_op op_mulX (pv 3) (pv 8)) (pe_op op_mulX (pv 4) (pv 7))) (pv 11))) (pss_cons (ps_set (i := 15) sc_add_extended.nd rfl (Or.inl rfl) (pe_op op_mod (pe_op op_sub (pv 12) (pv 13)) (pv 11))) (pss_cons (ps_set (i := 16) sc_add_extended.nd rfl (Or.inl rfl) (pe_op op_mod (pe_op op_add (pv 12) (pv 13)) (pv 11))) (pss_cons (ps_set (i := 17) sc_add_extended.nd rfl (Or.inl rfl) (pe_op op_mod (pe_op op_sub (pe_op op_mulX (pv 4) (pv 8)) (pe_op op_mulX (pe_op op_mulX (pe_fld (pv 0) rfl) (pv 3)) (pv 7))) (pv 11))) (pss_one (ps_ret (pe_tup (pa_cons (pe_op op_mod (pe_op op_mulX (pv 14) (pv 15)) (pv 11)) (pa_cons (pe_op op_mod (pe_op op_mulX (pv 16) (pv 17)) (pv 11)) (pa_cons (pe_op op_mod (pe_op op_mulX (pv 15) (pv 16)) (pv 11)) (pa_cons (pe_op op_mod (pe_op op_mulX (pv 14) (pv 17)) (pv 11)) pa_nil)))))))))))))))), ?_⟩
  rintro ⟨curve_, first_, second_, ⟨⟩⟩ F0 H0 Q KP L
  show Blk K F0 H0 KP _ [some (.im (toD curve_)), some (.im (toD first_)), some (.im (toD second_)), none, none, none, none, none, none, none, none, none, none, none, none, none, none, none] (m_add_extended curve_ first_ second_)
  unfold m_add_extended
  have hs_ := ((ev_var (i := 1) (x := first_) rfl) : EvX K (W0 E) [some (.im (toD curve_)), some (.im (toD first_)), some (.im (toD second_)), none, none, none, none, none, none, none, none, none, none, none, none, none, none, none] _ _); replace hs_ : EvX K (W0 E) [some (.im (toD curve_)), some (.im (toD first_)), some (.im (toD second_)), none, none, none, none, none, none, none, none, none, none, none, none, none, none, none] _ (Res.ok first_ : Res (T4 Int Int Int Int)) := hs_
  refine blk_seq (blk_asg L trivial hs_ (fun _ => (gx_tup (gxs_cons gx_name (gxs_cons gx_name (gxs_cons gx_name (gxs_cons gx_name gxs_nil)))) rfl)) fun u225 => ?_)
  show Blk _ _ _ _ _ [some (.im (toD curve_)), some (.im (toD first_)), some (.im (toD second_)), some (.im (toD u225.a)), some (.im (toD u225.b)), some (.im (toD u225.c)), some (.im (toD u225.e)), none, none, none, none, none, none, none, none, none, none, none] ((fun (x1_ : Int) (y1_ : Int) (z1_ : Int) (t1_ : Int) => _) u225.a u225.b u225.c u225.e)
  generalize u225.a = x1_
  generalize u225.b = y1_
  generalize u225.c = z1_
  generalize u225.e = t1_
  show Blk _ _ _ _ _ [some (.im (toD curve_)), some (.im (toD first_)), some (.im (toD second_)), some (.im (toD x1_)), some (.im (toD y1_)), some (.im (toD z1_)), some (.im (toD t1_)), none, none, none, none, none, none, none, none, none, none, none] _
  try refine Blk.nx ?_
  have hs_ := ((ev_var (i := 2) (x := second_) rfl) : EvX K (W0 E) [some (.im (toD curve_)), some (.im (toD first_)), some (.im (toD second_)), some (.im (toD x1_)), some (.im (toD y1_)), some (.im (toD z1_)), some (.im (toD t1_)), none, none, none, none, none, none, none, none, none, none, none] _ _); replace hs_ : EvX K (W0 E) [some (.im (toD curve_)), some (.im (toD first_)), some (.im (toD second_)), some (.im (toD x1_)), some (.im (toD y1_)), some (.im (toD z1_)), some (.im (toD t1_)), none, none, none, none, none, none, none, none, none, none, none] _ (Res.ok second_ : Res (T4 Int Int Int Int)) := hs_
  refine blk_seq (blk_asg L trivial hs_ (fun _ => (gx_tup (gxs_cons gx_name (gxs_cons gx_name (gxs_cons gx_name (gxs_cons gx_name gxs_nil)))) rfl)) fun u226 => ?_)
  show Blk _ _ _ _ _ [some (.im (toD curve_)), some (.im (toD first_)), some (.im (toD second_)), some (.im (toD x1_)), some (.im (toD y1_)), some (.im (toD z1_)), some (.im (toD t1_)), some (.im (toD u226.a)), some (.im (toD u226.b)), some (.im (toD u226.c)), some (.im (toD u226.e)), none, none, none, none, none, none, none] ((fun (x2_ : Int) (y2_ : Int) (z2_ : Int) (t2_ : Int) => _) u226.a u226.b u226.c u226.e)
  generalize u226.a = x2_
  generalize u226.b = y2_
  generalize u226.c = z2_
  generalize u226.e = t2_
  show Blk _ _ _ _ _ [some (.im (toD curve_)), some (.im (toD first_)), some (.im (toD second_)), some (.im (toD x1_)), some (.im (toD y1_)), some (.im (toD z1_)), some (.im (toD t1_)), some (.im (toD x2_)), some (.im (toD y2_)), some (.im (toD z2_)), some (.im (toD t2_)), none, none, none, none, none, none, none] _
  try refine Blk.nx ?_
  have hs_ := ((ev_fld (g := fun (x : O_EdwardsCurve) => x.f_prime) (c := "EdwardsCurve") (ks := ["prime", "a", "d"]) (j := 0) (ev_var (i := 0) (x := curve_) rfl) T.cl_EdwardsCurve T.nf_EdwardsCurve_prime (by decide +kernel) (fun _ => ⟨_, rfl, rfl⟩)) : EvX K (W0 E) [some (.im (toD curve_)), some (.im (toD first_)), some (.im (toD second_)), some (.im (toD x1_)), some (.im (toD y1_)), some (.im (toD z1_)), some (.im (toD t1_)), some (.im (toD x2_)), some (.im (toD y2_)), some (.im (toD z2_)), some (.im (toD t2_)), none, none, none, none, none, none, none] _ _); replace hs_ : EvX K (W0 E) [some (.im (toD curve_)), some (.im (toD first_)), some (.im (toD second_)), some (.im (toD x1_)), some (.im (toD y1_)), some (.im (toD z1_)), some (.im (toD t1_)), some (.im (toD x2_)), some (.im (toD y2_)), some (.im (toD z2_)), some (.im (toD t2_)), none, none, none, none, none, none, none] _ (Res.ok curve_.f_prime : Res Int) := hs_
  refine blk_seq (blk_set (i := 11) L trivial hs_ fun p_ => ?_)
  show Blk _ _ _ _ _ [some (.im (toD curve_)), some (.im (toD first_)), some (.im (toD second_)), some (.im (toD x1_)), some (.im (toD y1_)), some (.im (toD z1_)), some (.im (toD t1_)), some (.im (toD x2_)), some (.im (toD y2_)), some (.im (toD z2_)), some (.im (toD t2_)), some (.im (toD p_)), none, none, none, none, none, none] _
  try refine Blk.nx ?_
  have hs_ := ((ev_op (opx_I (C := CMulX) (g := fun i j => i * j)) mild_need (ev_var (i := 5) (x := z1_) rfl) (ev_var (i := 9) (x := z2_) rfl)) : EvX K (W0 E) [some (.im (toD curve_)), some (.im (toD first_)), some (.im (toD second_)), some (.im (toD x1_)), some (.im (toD y1_)), some (.im (toD z1_)), some (.im (toD t1_)), some (.im (toD x2_)), some (.im (toD y2_)), some (.im (toD z2_)), some (.im (toD t2_)), some (.im (toD p_)), none, none, none, none, none, none] _ _); replace hs_ : EvX K (W0 E) [some (.im (toD curve_)), some (.im (toD first_)), some (.im (toD second_)), some (.im (toD x1_)), some (.im (toD y1_)), some (.im (toD z1_)), some (.im (toD t1_)), some (.im (toD x2_)), some (.im (toD y2_)), some (.im (toD z2_)), some (.im (toD t2_)), some (.im (toD p_)), none, none, none, none, none, none] _ (Res.need (CMulX z1_ z2_) (Res.ok (z1_ * z2_))) := hs_
  refine blk_seq (blk_set (i := 12) L trivial hs_ fun zz_ => ?_)
  show Blk _ _ _ _ _ [some (.im (toD curve_)), some (.im (toD first_)), some (.im (toD second_)), some (.im (toD x1_)), some (.im (toD y1_)), some (.im (toD z1_)), some (.im (toD t1_)), some (.im (toD x2_)), some (.im (toD y2_)), some (.im (toD z2_)), some (.im (toD t2_)), some (.im (toD p_)), some (.im (toD zz_)), none, none, none, none, none] _
  try refine Blk.nx ?_
  have hs_ := ((ev_op (opx_I (C := (fun _ j => 0 < j)) (g := fun i j => i % j)) mild_need (ev_op (opx_I (C := CMulX) (g := fun i j => i * j)) mild_need (ev_op (opx_I (C := CMulX) (g := fun i j => i * j)) mild_need (ev_fld (g := fun (x : O_EdwardsCurve) => x.f_d) (c := "EdwardsCurve") (ks := ["prime", "a", "d"]) (j := 2) (ev_var (i := 0) (x := curve_) rfl) T.cl_EdwardsCurve T.nf_EdwardsCurve_d (by decide +kernel) (fun _ => ⟨_, rfl, rfl⟩)) (ev_var (i := 6) (x := t1_) rfl)) (ev_var (i := 10) (x := t2_) rfl)) (ev_var (i := 11) (x := p_) rfl)) : EvX K (W0 E) [some (.im (toD curve_)), some (.im (toD first_)), some (.im (toD second_)), some (.im (toD x1_)), some (.im (toD y1_)), some (.im (toD z1_)), some (.im (toD t1_)), some (.im (toD x2_)), some (.im (toD y2_)), some (.im (toD z2_)), some (.im (toD t2_)), some (.im (toD p_)), some (.im (toD zz_)), none, none, none, none, none] _ _); replace hs_ : EvX K (W0 E) [some (.im (toD curve_)), some (.im (toD first_)), some (.im (toD second_)), some (.im (toD x1_)), some (.im (toD y1_)), some (.im (toD z1_)), some (.im (toD t1_)), some (.im (toD x2_)), some (.im (toD y2_)), some (.im (toD z2_)), some (.im (toD t2_)), some (.im (toD p_)), some (.im (toD zz_)), none, none, none, none, none] _ (((Res.need (CMulX curve_.f_d t1_) (Res.ok (curve_.f_d * t1_))).bind fun (t227 : Int) => Res.need (CMulX t227 t2_) (Res.ok (t227 * t2_))).bind fun (t228 : Int) => Res.need (0 < p_) (Res.ok (t228 % p_))) := hs_
  refine blk_seq (blk_set (i := 13) L trivial hs_ fun dtt_ => ?_)
  show Blk _ _ _ _ _ [some (.im (toD curve_)), some (.im (toD first_)), some (.im (toD second_)), some (.im (toD x1_)), some (.im (toD y1_)), some (.im (toD z1_)), some (.im (toD t1_)), some (.im (toD x2_)), some (.im (toD y2_)), some (.im (toD z2_)), some (.im (toD t2_)), some (.im (toD p_)), some (.im (toD zz_)), some (.im (toD dtt_)), none, none, none, none] _
  try refine Blk.nx ?_
  have hs_ := ((ev_op (opx_I (C := (fun _ j => 0 < j)) (g := fun i j => i % j)) mild_need (ev_op (opx_I0 (g := fun i j => i + j)) mild_ok (ev_op (opx_I (C := CMulX) (g := fun i j => i * j)) mild_need (ev_var (i := 3) (x := x1_) rfl) (ev_var (i := 8) (x := y2_) rfl)) (ev_op (opx_I (C := CMulX) (g := fun i j => i * j)) mild_need (ev_var (i := 4) (x := y1_) rfl) (ev_var (i := 7) (x := x2_) rfl))) (ev_var (i := 11) (x := p_) rfl)) : EvX K (W0 E) [some (.im (toD curve_)), some (.im (toD first_)), some (.im (toD second_)), some (.im (toD x1_)), some (.im (toD y1_)), some (.im (toD z1_)), some (.im (toD t1_)), some (.im (toD x2_)), some (.im (toD y2_)), some (.im (toD z2_)), some (.im (toD t2_)), some (.im (toD p_)), some (.im (toD zz_)), some (.im (toD dtt_)), none, none, none, none] _ _); replace hs_ : EvX K (W0 E) [some (.im (toD curve_)), some (.im (toD first_)), some (.im (toD second_)), some (.im (toD x1_)), some (.im (toD y1_)), some (.im (toD z1_)), some (.im (toD t1_)), some (.im (toD x2_)), some (.im (toD y2_)), some (.im (toD z2_)), some (.im (toD t2_)), some (.im (toD p_)), some (.im (toD zz_)), some (.im (toD dtt_)), none, none, none, none] _ (((Res.need (CMulX x1_ y2_) (Res.ok (x1_ * y2_))).bind fun (t229 : Int) => (Res.need (CMulX y1_ x2_) (Res.ok (y1_ * x2_))).bind fun (t230 : Int) => Res.ok (t229 + t230)).bind fun (t231 : Int) => Res.need (0 < p_) (Res.ok (t231 % p_))) := hs_
  refine blk_seq (blk_set (i := 14) L trivial hs_ fun e_ => ?_)
  show Blk _ _ _ _ _ [some (.im (toD curve_)), some (.im (toD first_)), some (.im (toD second_)), some (.im (toD x1_)), some (.im (toD y1_)), some (.im (toD z1_)), some (.im (toD t1_)), some (.im (toD x2_)), some (.im (toD y2_)), some (.im (toD z2_)), some (.im (toD t2_)), some (.im (toD p_)), some (.im (toD zz_)), some (.im (toD dtt_)), some (.im (toD e_)), none, none, none] _
  try refine Blk.nx ?_
  have hs_ := ((ev_op (opx_I (C := (fun _ j => 0 < j)) (g := fun i j => i % j)) mild_need (ev_op (opx_I0 (g := fun i j => i - j)) mild_ok (ev_var (i := 12) (x := zz_) rfl) (ev_var (i := 13) (x := dtt_) rfl)) (ev_var (i := 11) (x := p_) rfl)) : EvX K (W0 E) [some (.im (toD curve_)), some (.im (toD first_)), some (.im (toD second_)), some (.im (toD x1_)), some (.im (toD y1_)), some (.im (toD z1_)), some (.im (toD t1_)), some (.im (toD x2_)), some (.im (toD y2_)), some (.im (toD z2_)), some (.im (toD t2_)), some (.im (toD p_)), some (.im (toD zz_)), some (.im (toD dtt_)), some (.im (toD e_)), none, none, none] _ _); replace hs_ : EvX K (W0 E) [some (.im (toD curve_)), some (.im (toD first_)), some (.im (toD second_)), some (.im (toD x1_)), some (.im (toD y1_)), some (.im (toD z1_)), some (.im (toD t1_)), some (.im (toD x2_)), some (.im (toD y2_)), some (.im (toD z2_)), some (.im (toD t2_)), some (.im (toD p_)), some (.im (toD zz_)), some (.im (toD dtt_)), some (.im (toD e_)), none, none, none] _ (Res.need (0 < p_) (Res.ok ((zz_ - dtt_) % p_))) := hs_
  refine blk_seq (blk_set (i := 15) L trivial hs_ fun f_ => ?_)
  show Blk _ _ _ _ _ [some (.im (toD curve_)), some (.im (toD first_)), some (.im (toD second_)), some (.im (toD x1_)), some (.im (toD y1_)), some (.im (toD z1_)), some (.im (toD t1_)), some (.im (toD x2_)), some (.im (toD y2_)), some (.im (toD z2_)), some (.im (toD t2_)), some (.im (toD p_)), some (.im (toD zz_)), some (.im (toD dtt_)), some (.im (toD e_)), some (.im (toD f_)), none, none] _
  try refine Blk.nx ?_
  have hs_ := ((ev_op (opx_I (C := (fun _ j => 0 < j)) (g := fun i j => i % j)) mild_need (ev_op (opx_I0 (g := fun i j => i + j)) mild_ok (ev_var (i := 12) (x := zz_) rfl) (ev_var (i := 13) (x := dtt_) rfl)) (ev_var (i := 11) (x := p_) rfl)) : EvX K (W0 E) [some (.im (toD curve_)), some (.im (toD first_)), some (.im (toD second_)), some (.im (toD x1_)), some (.im (toD y1_)), some (.im (toD z1_)), some (.im (toD t1_)), some (.im (toD x2_)), some (.im (toD y2_)), some (.im (toD z2_)), some (.im (toD t2_)), some (.im (toD p_)), some (.im (toD zz_)), some (.im (toD dtt_)), some (.im (toD e_)), some (.im (toD f_)), none, none] _ _); replace hs_ : EvX K (W0 E) [some (.im (toD curve_)), some (.im (toD first_)), some (.im (toD second_)), some (.im (toD x1_)), some (.im (toD y1_)), some (.im (toD z1_)), some (.im (toD t1_)), some (.im (toD x2_)), some (.im (toD y2_)), some (.im (toD z2_)), some (.im (toD t2_)), some (.im (toD p_)), some (.im (toD zz_)), some (.im (toD dtt_)), some (.im (toD e_)), some (.im (toD f_)), none, none] _ (Res.need (0 < p_) (Res.ok ((zz_ + dtt_) % p_))) := hs_
  refine blk_seq (blk_set (i := 16) L trivial hs_ fun g_ => ?_)
  show Blk _ _ _ _ _ [some (.im (toD curve_)), some (.im (toD first_)), some (.im (toD second_)), some (.im (toD x1_)), some (.im (toD y1_)), some (.im (toD z1_)), some (.im (toD t1_)), some (.im (toD x2_)), some (.im (toD y2_)), some (.im (toD z2_)), some (.im (toD t2_)), some (.im (toD p_)), some (.im (toD zz_)), some (.im (toD dtt_)), some (.im (toD e_)), some (.im (toD f_)), some (.im (toD g_)), none] _
  try refine Blk.nx ?_
  have hs_ := ((ev_op (opx_I (C := (fun _ j => 0 < j)) (g := fun i j => i % j)) mild_need (ev_op (opx_I0 (g := fun i j => i - j)) mild_ok (ev_op (opx_I (C := CMulX) (g := fun i j => i * j)) mild_need (ev_var (i := 4) (x := y1_) rfl) (ev_var (i := 8) (x := y2_) rfl)) (ev_op (opx_I (C := CMulX) (g := fun i j => i * j)) mild_need (ev_op (opx_I (C := CMulX) (g := fun i j => i * j)) mild_need (ev_fld (g := fun (x : O_EdwardsCurve) => x.f_a) (c := "EdwardsCurve") (ks := ["prime", "a", "d"]) (j := 1) (ev_var (i := 0) (x := curve_) rfl) T.cl_EdwardsCurve T.nf_EdwardsCurve_a (by decide +kernel) (fun _ => ⟨_, rfl, rfl⟩)) (ev_var (i := 3) (x := x1_) rfl)) (ev_var (i := 7) (x := x2_) rfl))) (ev_var (i := 11) (x := p_) rfl)) : EvX K (W0 E) [some (.im (toD curve_)), some (.im (toD first_)), some (.im (toD second_)), some (.im (toD x1_)), some (.im (toD y1_)), some (.im (toD z1_)), some (.im (toD t1_)), some (.im (toD x2_)), some (.im (toD y2_)), some (.im (toD z2_)), some (.im (toD t2_)), some (.im (toD p_)), some (.im (toD zz_)), some (.im (toD dtt_)), some (.im (toD e_)), some (.im (toD f_)), some (.im (toD g_)), none] _ _); replace hs_ : EvX K (W0 E) [some (.im (toD curve_)), some (.im (toD first_)), some (.im (toD second_)), some (.im (toD x1_)), some (.im (toD y1_)), some (.im (toD z1_)), some (.im (toD t1_)), some (.im (toD x2_)), some (.im (toD y2_)), some (.im (toD z2_)), some (.im (toD t2_)), some (.im (toD p_)), some (.im (toD zz_)), some (.im (toD dtt_)), some (.im (toD e_)), some (.im (toD f_)), some (.im (toD g_)), none] _ (((Res.need (CMulX y1_ y2_) (Res.ok (y1_ * y2_))).bind fun (t233 : Int) => ((Res.need (CMulX curve_.f_a x1_) (Res.ok (curve_.f_a * x1_))).bind fun (t232 : Int) => Res.need (CMulX t232 x2_) (Res.ok (t232 * x2_))).bind fun (t234 : Int) => Res.ok (t233 - t234)).bind fun (t235 : Int) => Res.need (0 < p_) (Res.ok (t235 % p_))) := hs_
  refine blk_seq (blk_set (i := 17) L trivial hs_ fun h_ => ?_)
  show Blk _ _ _ _ _ [some (.im (toD curve_)), some (.im (toD first_)), some (.im (toD second_)), some (.im (toD x1_)), some (.im (toD y1_)), some (.im (toD z1_)), some (.im (toD t1_)), some (.im (toD x2_)), some (.im (toD y2_)), some (.im (toD z2_)), some (.im (toD t2_)), some (.im (toD p_)), some (.im (toD zz_)), some (.im (toD dtt_)), some (.im (toD e_)), some (.im (toD f_)), some (.im (toD g_)), some (.im (toD h_))] _
  try refine Blk.nx ?_
  have hr_ := ((ev_tup (f := (fun y => T4.mk y.1 y.2.1 y.2.2.1 y.2.2.2.1)) (ea_cons (ev_op (opx_I (C := (fun _ j => 0 < j)) (g := fun i j => i % j)) mild_need (ev_op (opx_I (C := CMulX) (g := fun i j => i * j)) mild_need (ev_var (i := 14) (x := e_) rfl) (ev_var (i := 15) (x := f_) rfl)) (ev_var (i := 11) (x := p_) rfl)) (ea_cons (ev_op (opx_I (C := (fun _ j => 0 < j)) (g := fun i j => i % j)) mild_need (ev_op (opx_I (C := CMulX) (g := fun i j => i * j)) mild_need (ev_var (i := 16) (x := g_) rfl) (ev_var (i := 17) (x := h_) rfl)) (ev_var (i := 11) (x := p_) rfl)) (ea_cons (ev_op (opx_I (C := (fun _ j => 0 < j)) (g := fun i j => i % j)) mild_need (ev_op (opx_I (C := CMulX) (g := fun i j => i * j)) mild_need (ev_var (i := 15) (x := f_) rfl) (ev_var (i := 16) (x := g_) rfl)) (ev_var (i := 11) (x := p_) rfl)) (ea_cons (ev_op (opx_I (C := (fun _ j => 0 < j)) (g := fun i j => i % j)) mild_need (ev_op (opx_I (C := CMulX) (g := fun i j => i * j)) mild_need (ev_var (i := 14) (x := e_) rfl) (ev_var (i := 17) (x := h_) rfl)) (ev_var (i := 11) (x := p_) rfl)) ea_nil)))) (fun _ => rfl) (fun _ => by show 4 ≤ 100000; decide)) : EvX K (W0 E) [some (.im (toD curve_)), some (.im (toD first_)), some (.im (toD second_)), some (.im (toD x1_)), some (.im (toD y1_)), some (.im (toD z1_)), some (.im (toD t1_)), some (.im (toD x2_)), some (.im (toD y2_)), some (.im (toD z2_)), some (.im (toD t2_)), some (.im (toD p_)), some (.im (toD zz_)), some (.im (toD dtt_)), some (.im (toD e_)), some (.im (toD f_)), some (.im (toD g_)), some (.im (toD h_))] _ _); replace hr_ : EvX K (W0 E) [some (.im (toD curve_)), some (.im (toD first_)), some (.im (toD second_)), some (.im (toD x1_)), some (.im (toD y1_)), some (.im (toD z1_)), some (.im (toD t1_)), some (.im (toD x2_)), some (.im (toD y2_)), some (.im (toD z2_)), some (.im (toD t2_)), some (.im (toD p_)), some (.im (toD zz_)), some (.im (toD dtt_)), some (.im (toD e_)), some (.im (toD f_)), some (.im (toD g_)), some (.im (toD h_))] _ ((((Res.need (CMulX e_ f_) (Res.ok (e_ * f_))).bind fun (t236 : Int) => Res.need (0 < p_) (Res.ok (t236 % p_))).bind fun a246 => (((Res.need (CMulX g_ h_) (Res.ok (g_ * h_))).bind fun (t237 : Int) => Res.need (0 < p_) (Res.ok (t237 % p_))).bind fun a244 => (((Res.need (CMulX f_ g_) (Res.ok (f_ * g_))).bind fun (t238 : Int) => Res.need (0 < p_) (Res.ok (t238 % p_))).bind fun a242 => (((Res.need (CMulX e_ h_) (Res.ok (e_ * h_))).bind fun (t239 : Int) => Res.need (0 < p_) (Res.ok (t239 % p_))).bind fun a240 => Res.ok (a240, ())).bind fun a243 => Res.ok (a242, a243)).bind fun a245 => Res.ok (a244, a245)).bind fun a247 => Res.ok (a246, a247)).bind fun p248 => Res.ok (T4.mk p248.1 p248.2.1 p248.2.2.1 p248.2.2.2.1)) := hr_
  exact blk_ret L trivial hr_
noncomputable def m_multiply_extended_l1 (curve_ : O_EdwardsCurve) (start_ : (T4 Int Int Int Int)) (k1 : (T4 Int Int Int Int) → Res (T2 Int Int)) : List Int → (T4 Int Int Int Int) → Res (T2 Int Int)
  | [], s => k1 s
  | x255 :: r1, result_ =>   (fun (bit_ : Int) => (m_add_extended curve_ result_ result_).bind fun (result_ : (T4 Int Int Int Int)) =>   ((Res.ok (decide (bit_ = (1 : Int))))).bind fun b => cond b   ((m_add_extended curve_ result_ start_).bind fun (result_ : (T4 Int Int Int Int)) =>   m_multiply_extended_l1 curve_ start_ k1 r1 result_)   (m_multiply_extended_l1 curve_ start_ k1 r1 result_)) x255
noncomputable def m_multiply_extended_k2 (curve_ : O_EdwardsCurve) : (T4 Int Int Int Int) → Res (T2 Int Int) := fun result_ =>   m_from_extended curve_ result_
noncomputable def m_multiply_extended (curve_ : O_EdwardsCurve) (factor_ : Int) (point_ : (T2 Int Int)) : Res (T2 Int Int) :=
  ((((cond (decide (factor_ < (0 : Int))) (m_EdwardsCurve_negate curve_ point_) ((Res.ok point_))).bind fun a250 => Res.ok (a250, ())).bind fun a253 => Res.ok (curve_, a253)).bind fun p254 => m_to_extended p254.1 p254.2.1).bind fun (start_ : (T4 Int Int Int Int)) =>   ((Res.ok k_NEUTRAL_FOUR)).bind fun (result_ : (T4 Int Int Int Int)) =>   (m_bits_from_top (Int.natAbs factor_ : Int)).bind fun (xs256 : List Int) => m_multiply_extended_l1 curve_ start_ (m_multiply_extended_k2 curve_) xs256 result_
theorem ok_multiply_extended {P : Program} {w : World} {K : PySem.W.Frag} {mg : Str → Option Value} {base : Heap} (T : Facts P w K mg) {fd : FuncData} (F : FnP K "multiply_extended" "multiply_extended" s_multiply_extended (He.ga K "multiply_extended") fd) :
    FnOk P w K mg base (L2.CX P w) 4 (He.ga K "multiply_extended") fd ["curve", "factor", "point"] (spM K (fun (p : O_EdwardsCurve × Int × (T2 Int Int) × Unit) => m_multiply_extended p.1 p.2.1 p.2.2.1)) := by
  obtain ⟨fd_EdwardsCurve_negate, F_EdwardsCurve_negate⟩ := T.d_EdwardsCurve_negate
  have G_EdwardsCurve_negate := ok_EdwardsCurve_negate (P := P) (w := w) (base := base) T F_EdwardsCurve_negate
  have b_EdwardsCurve_negate : Binds K fd_EdwardsCurve_negate ["self", "point"] [] := F_EdwardsCurve_negate.bindsN fun _ _ _ _ _ _ us hl => match us, hl with | [_, _], _ => rfl
  obtain ⟨fd_add_extended, F_add_extended⟩ := T.d_add_extended
  have G_add_extended := ok_add_extended (P := P) (w := w) (base := base) T F_add_extended
  have b_add_extended : Binds K fd_add_extended ["curve", "first", "second"] [] := F_add_extended.bindsN fun _ _ _ _ _ _ us hl => match us, hl with | [_, _, _], _ => rfl
  obtain ⟨fd_bits_from_top, F_bits_from_top⟩ := T.d_bits_from_top
  have G_bits_from_top := ok_bits_from_top (P := P) (w := w) (base := base) T F_bits_from_top
  have b_bits_from_top : Binds K fd_bits_from_top ["number"] [] := F_bits_from_top.bindsN fun _ _ _ _ _ _ us hl => match us, hl with | [_], _ => rfl
  obtain ⟨fd_from_extended, F_from_extended⟩ := T.d_from_extended
  have G_from_extended := ok_from_extended (P := P) (w := w) (base := base) T F_from_extended
  have b_from_extended : Binds K fd_from_extended ["curve", "four"] [] := F_from_extended.bindsN fun _ _ _ _ _ _ us hl => match us, hl with | [_, _], _ => rfl
  obtain ⟨fd_to_extended, F_to_extended⟩ := T.d_to_extended
  have G_to_extended := ok_to_extended (P := P) (w := w) (base := base) T F_to_extended
  have b_to_extended : Binds K fd_to_extended ["curve", "point"] [] := F_to_extended.bindsN fun _ _ _ _ _ _ us hl => match us, hl with | [_, _], _ => rfl
  refine fn_ok F sc_multiply_extended (fun y => rfl) (fun cdv A outer s H E hr => ?_)
  refine ⟨_, (pss_cons (ps_set (i := 3) sc_multiply_extended.nd rfl (Or.inl rfl) (pe_callS G_to_extended (hr.mono (by decide)) rfl T.g_to_extended F_to_extended.kp b_to_extended (fun σ => passAt (takes_of rfl rfl rfl rfl) σ) (pa_cons (pv 0) (pa_cons (pe_ifExp (pt_cmpR op_lt (pv 1) pe_int (nomark _)) (pe_methQ (pv 0) T.cl_EdwardsCurve T.mt_EdwardsCurve_negate G_EdwardsCurve_negate (hr.mono (by decide)) b_EdwardsCurve_negate (fun σ => passAt (takes_of rfl rfl rfl rfl) σ) (pa_cons (pv 2) pa_nil)) (pv 2)) pa_nil)))) (pss_cons (ps_set (i := 4) sc_multiply_extended.nd rfl (Or.inl rfl) (pe_glob (v := T.c_NEUTRAL_FOUR.v) rfl T.c_NEUTRAL_FOUR.m T.c_NEUTRAL_FOUR.r)) (pss_cons (ps_for (passes_of rfl) rfl (pi_list (pe_callS G_bits_from_top (hr.mono (by decide)) rfl T.g_bits_from_top F_bits_from_top.kp b_bits_from_top (fun σ => passAt (takes_of rfl rfl rfl rfl) σ) (pa_cons (pe_callB call_abs (by rfl) T.n_abs (by decide +kernel) (pa_cons (pv 1) pa_nil)) pa_nil))) (pg_name (i := 5) sc_multiply_extended.nd rfl (Or.inl rfl)) (pss_cons (ps_set (i := 4) sc_multiply_extended.nd rfl (Or.inl rfl) (pe_callS G_add_extended (hr.mono (by decide)) rfl T.g_add_extended F_add_extended.kp b_add_extended (fun σ => passAt (takes_of rfl rfl rfl rfl) σ) (pa_cons (pv 0) (pa_cons (pv 4) (pa_cons (pv 4) pa_nil))))) (pss_one (ps_if (pt_cmpR op_eq (pv 5) pe_int (nomark _)) (pss_one (ps_set (i := 4) sc_multiply_extended.nd rfl (Or.inl rfl) (pe_callS G_add_extended (hr.mono (by decide)) rfl T.g_add_extended F_add_extended.kp b_add_extended (fun σ => passAt (takes_of rfl rfl rfl rfl) σ) (pa_cons (pv 0) (pa_cons (pv 4) (pa_cons (pv 3) pa_nil)))))) pss_nil)))) (pss_one (ps_ret (pe_callS G_from_extended (hr.mono (by decide)) rfl T.g_from_extended F_from_extended.kp b_from_extended (fun σ => passAt (takes_of rfl rfl rfl rfl) σ) (pa_cons (pv 0) (pa_cons (pv 4) pa_nil)))))))), ?_⟩
  rintro ⟨curve_, factor_, point_, ⟨⟩⟩ F0 H0 Q KP L
  show Blk K F0 H0 KP _ [some (.im (toD curve_)), some (.im (toD factor_)), some (.im (toD point_)), none, none, none] (m_multiply_extended curve_ factor_ point_)
  unfold m_multiply_extended
  have hs_ := ((ev_call (f := (fun (p : O_EdwardsCurve × (T2 Int Int) × Unit) => m_to_extended p.1 p.2.1)) (ea_cons (ev_var (i := 0) (x := curve_) rfl) (ea_cons (ev_if (et_test (ev_op (opx_B0 (g := fun i j => decide (i < j))) mild_ok (ev_var (i := 1) (x := factor_) rfl) (ev_int (i := 0)))) (ev_meth (c := "EdwardsCurve") (m := "negate") (ks := ["prime", "a", "d"]) (f := (fun (p : O_EdwardsCurve × (T2 Int Int) × Unit) => m_EdwardsCurve_negate p.1 p.2.1)) (ev_var (i := 0) (x := curve_) rfl) (ea_cons (ev_var (i := 2) (x := point_) rfl) ea_nil) (by decide +kernel) (fun _ => ⟨_, rfl⟩)) (ev_var (i := 2) (x := point_) rfl)) ea_nil))) : EvX K (W0 E) [some (.im (toD curve_)), some (.im (toD factor_)), some (.im (toD point_)), none, none, none] _ _); replace hs_ : EvX K (W0 E) [some (.im (toD curve_)), some (.im (toD factor_)), some (.im (toD point_)), none, none, none] _ ((((cond (decide (factor_ < (0 : Int))) (m_EdwardsCurve_negate curve_ point_) ((Res.ok point_))).bind fun a250 => Res.ok (a250, ())).bind fun a253 => Res.ok (curve_, a253)).bind fun p254 => m_to_extended p254.1 p254.2.1) := hs_
  refine blk_seq (blk_set (i := 3) L trivial hs_ fun start_ => ?_)
  show Blk _ _ _ _ _ [some (.im (toD curve_)), some (.im (toD factor_)), some (.im (toD point_)), some (.im (toD start_)), none, none] _
  try refine Blk.nx ?_
  have hs_ := ((ev_con T.c_NEUTRAL_FOUR) : EvX K (W0 E) [some (.im (toD curve_)), some (.im (toD factor_)), some (.im (toD point_)), some (.im (toD start_)), none, none] _ _); replace hs_ : EvX K (W0 E) [some (.im (toD curve_)), some (.im (toD factor_)), some (.im (toD point_)), some (.im (toD start_)), none, none] _ (Res.ok k_NEUTRAL_FOUR : Res (T4 Int Int Int Int)) := hs_
  refine blk_seq (blk_set (i := 4) L trivial hs_ fun result_ => ?_)
  show Blk _ _ _ _ _ [some (.im (toD curve_)), some (.im (toD factor_)), some (.im (toD point_)), some (.im (toD start_)), some (.im (toD result_)), none] _
  try refine Blk.nx ?_
  have hi_ := ((ei_list (ev_call (f := (fun (p : Int × Unit) => m_bits_from_top p.1)) (ea_cons (ev_cb cx_abs (fun _ _ h => nomatch h) (ea_cons (ev_var (i := 1) (x := factor_) rfl) ea_nil)) ea_nil))) : EvI K (W0 E) [some (.im (toD curve_)), some (.im (toD factor_)), some (.im (toD point_)), some (.im (toD start_)), some (.im (toD result_)), none] _ _); replace hi_ : EvI K (W0 E) [some (.im (toD curve_)), some (.im (toD factor_)), some (.im (toD point_)), some (.im (toD start_)), some (.im (toD result_)), none] _ (m_bits_from_top (Int.natAbs factor_ : Int)) := hi_
  refine blk_seq (blk_for (S := (T4 Int Int Int Int)) (m_multiply_extended_l1 curve_ start_ (m_multiply_extended_k2 curve_)) (m_multiply_extended_k2 curve_) (fun result_ => [some (.im (toD curve_)), some (.im (toD factor_)), some (.im (toD point_)), some (.im (toD start_)), some (.im (toD result_)), none]) result_ L trivial hi_ (fun _ => gx_name) (.same (.same (.same (.same (.same (.same .nil)))))) (fun _ => rfl) ?_ ?_)
  · intro F1 L1 hB1 x255 r1 s_ N_ hN1
    revert s_; intro result_
    show Blk _ _ _ _ _ [some (.im (toD curve_)), some (.im (toD factor_)), some (.im (toD point_)), some (.im (toD start_)), some (.im (toD result_)), some (.im (toD x255))] (m_multiply_extended_l1 curve_ start_ (m_multiply_extended_k2 curve_) (x255 :: r1) result_)
    rw [m_multiply_extended_l1]
    show Blk _ _ _ _ _ _ ((fun (bit_ : Int) => _) x255)
    generalize x255 = bit_
    show Blk _ _ _ _ _ [some (.im (toD curve_)), some (.im (toD factor_)), some (.im (toD point_)), some (.im (toD start_)), some (.im (toD result_)), some (.im (toD bit_))] _
    have hs_ := ((ev_call (f := (fun (p : O_EdwardsCurve × (T4 Int Int Int Int) × (T4 Int Int Int Int) × Unit) => m_add_extended p.1 p.2.1 p.2.2.1)) (ea_cons (ev_var (i := 0) (x := curve_) rfl) (ea_cons (ev_var (i := 4) (x := result_) rfl) (ea_cons (ev_var (i := 4) (x := result_) rfl) ea_nil)))) : EvX K (W0 E) [some (.im (toD curve_)), some (.im (toD factor_)), some (.im (toD point_)), some (.im (toD start_)), some (.im (toD result_)), some (.im (toD bit_))] _ _); replace hs_ : EvX K (W0 E) [some (.im (toD curve_)), some (.im (toD factor_)), some (.im (toD point_)), some (.im (toD start_)), some (.im (toD result_)), some (.im (toD bit_))] _ (m_add_extended curve_ result_ result_) := hs_
    refine blk_seq (blk_set (i := 4) L1 trivial hs_ fun result_ => ?_)
    show Blk _ _ _ _ _ [some (.im (toD curve_)), some (.im (toD factor_)), some (.im (toD point_)), some (.im (toD start_)), some (.im (toD result_)), some (.im (toD bit_))] _
    try refine Blk.nx ?_
    have ht_ := ((et_test (ev_op opx_eqI mild_ok (ev_var (i := 5) (x := bit_) rfl) (ev_int (i := 1)))) : EvT K (W0 E) [some (.im (toD curve_)), some (.im (toD factor_)), some (.im (toD point_)), some (.im (toD start_)), some (.im (toD result_)), some (.im (toD bit_))] _ _); replace ht_ : EvT K (W0 E) [some (.im (toD curve_)), some (.im (toD factor_)), some (.im (toD point_)), some (.im (toD start_)), some (.im (toD result_)), some (.im (toD bit_))] _ ((Res.ok (decide (bit_ = (1 : Int))))) := ht_
    refine blk_if2 L1 trivial ht_ ?_ ?_
    · have hs_ := ((ev_call (f := (fun (p : O_EdwardsCurve × (T4 Int Int Int Int) × (T4 Int Int Int Int) × Unit) => m_add_extended p.1 p.2.1 p.2.2.1)) (ea_cons (ev_var (i := 0) (x := curve_) rfl) (ea_cons (ev_var (i := 4) (x := result_) rfl) (ea_cons (ev_var (i := 3) (x := start_) rfl) ea_nil)))) : EvX K (W0 E) [some (.im (toD curve_)), some (.im (toD factor_)), some (.im (toD point_)), some (.im (toD start_)), some (.im (toD result_)), some (.im (toD bit_))] _ _); replace hs_ : EvX K (W0 E) [some (.im (toD curve_)), some (.im (toD factor_)), some (.im (toD point_)), some (.im (toD start_)), some (.im (toD result_)), some (.im (toD bit_))] _ (m_add_extended curve_ result_ start_) := hs_
      refine blk_set (i := 4) L1 trivial hs_ fun result_ => ?_
      show Blk _ _ _ _ _ [some (.im (toD curve_)), some (.im (toD factor_)), some (.im (toD point_)), some (.im (toD start_)), some (.im (toD result_)), some (.im (toD bit_))] _
      try refine Blk.nx ?_
      exact (hN1 result_).weak (.same (.same (.same (.same (.same (.drop .nil))))))
    · refine blk_nil ?_
      try refine Blk.nx ?_
      exact (hN1 result_).weak (.same (.same (.same (.same (.same (.drop .nil))))))
  · intro result_
    show Blk _ _ _ _ _ [some (.im (toD curve_)), some (.im (toD factor_)), some (.im (toD point_)), some (.im (toD start_)), some (.im (toD result_)), none] ((m_multiply_extended_k2 curve_) result_)
    unfold m_multiply_extended_k2
    try refine Blk.nx ?_
    have hr_ := ((ev_call (f := (fun (p : O_EdwardsCurve × (T4 Int Int Int Int) × Unit) => m_from_extended p.1 p.2.1)) (ea_cons (ev_var (i := 0) (x := curve_) rfl) (ea_cons (ev_var (i := 4) (x := result_) rfl) ea_nil))) : EvX K (W0 E) [some (.im (toD curve_)), some (.im (toD factor_)), some (.im (toD point_)), some (.im (toD start_)), some (.im (toD result_)), none] _ _); replace hr_ : EvX K (W0 E) [some (.im (toD curve_)), some (.im (toD factor_)), some (.im (toD point_)), some (.im (toD start_)), some (.im (toD result_)), none] _ (m_from_extended curve_ result_) := hr_
    exact blk_ret L trivial hr_
noncomputable def m_u_byte_size (number_ : Int) : Res Int :=
  (Res.ok ((((Builtin.Int.intBits number_ : Nat) : Int) + (7 : Int)) / (8 : Int)))
theorem ok_u_byte_size {P : Program} {w : World} {K : PySem.W.Frag} {mg : Str → Option Value} {base : Heap} (T : Facts P w K mg) {fd : FuncData} (F : FnP K "_byte_size" "_byte_size" s_u_byte_size (He.ga K "_byte_size") fd) :
    FnOk P w K mg base (L2.CX P w) 1 (He.ga K "_byte_size") fd ["number"] (spM K (fun (p : Int × Unit) => m_u_byte_size p.1)) := by
  refine fn_ok F sc_u_byte_size (fun y => rfl) (fun cdv A outer s H E hr => ?_)
  refine ⟨_, (pss_one (ps_ret (pe_op op_fdiv (pe_op op_add (pe_bits (pv 0)) pe_int) pe_int))), ?_⟩
  rintro ⟨number_, ⟨⟩⟩ F0 H0 Q KP L
  show Blk K F0 H0 KP _ [some (.im (toD number_))] (m_u_byte_size number_)
  unfold m_u_byte_size
  have hr_ := ((ev_opI (C := CDiv) (g := fun i j => i / j) (fun x y _ h => by cases h; exact ⟨by decide, by decide⟩) (ev_op (opx_I0 (g := fun i j => i + j)) mild_ok (ev_bits (ev_var (i := 0) (x := number_) rfl)) (ev_int (i := 7))) (ev_int (i := 8))) : EvX K (W0 E) [some (.im (toD number_))] _ _); replace hr_ : EvX K (W0 E) [some (.im (toD number_))] _ (Res.ok ((((Builtin.Int.intBits number_ : Nat) : Int) + (7 : Int)) / (8 : Int)) : Res Int) := hr_
  exact blk_ret L trivial hr_
noncomputable def m_Group_super__init__ (name_ : Str) (kind_ : Str) (curve_ : O_Curve) (base_ : (T2 Int Int)) (order_ : Int) (cofactor_ : Int) : Res O_Group :=
  ((Res.ok name_)).bind fun (sf_name : Str) =>   ((Res.ok kind_)).bind fun (sf_kind : Str) =>   ((Res.ok curve_)).bind fun (sf_curve : O_Curve) =>   ((Res.ok curve_.f_prime)).bind fun (sf_prime : Int) =>   ((Res.ok base_)).bind fun (sf_base : (T2 Int Int)) =>   ((Res.ok order_)).bind fun (sf_order : Int) =>   ((Res.ok cofactor_)).bind fun (sf_cofactor : Int) =>   (m_u_byte_size curve_.f_prime).bind fun (sf_size : Int) =>   (m_u_byte_size order_).bind fun (sf_order_size : Int) =>   Res.ok (O_Group.mk sf_name sf_kind sf_curve sf_prime sf_base sf_order sf_cofactor sf_size sf_order_size)
theorem ok_Group_super__init__ {P : Program} {w : World} {K : PySem.W.Frag} {mg : Str → Option Value} {base : Heap} (T : Facts P w K mg) {fd : FuncData} (F : FnP K "__init__" "GroupFields.__init__" s_Group_super__init__ (He.ma K (He.ga K "GroupFields") "__init__") fd) :
    FnOk P w K mg base (L2.CX P w) 2 (He.ma K (He.ga K "GroupFields") "__init__") fd ["self", "name", "kind", "curve", "base", "order", "cofactor"] (spI K "Group" (fun (p : Str × Str × O_Curve × (T2 Int Int) × Int × Int × Unit) => m_Group_super__init__ p.1 p.2.1 p.2.2.1 p.2.2.2.1 p.2.2.2.2.1 p.2.2.2.2.2.1)) := by
  obtain ⟨fd_u_byte_size, F_u_byte_size⟩ := T.d_u_byte_size
  have G_u_byte_size := ok_u_byte_size (P := P) (w := w) (base := base) T F_u_byte_size
  have b_u_byte_size : Binds K fd_u_byte_size ["number"] [] := F_u_byte_size.bindsN fun _ _ _ _ _ _ us hl => match us, hl with | [_], _ => rfl
  refine fn_okI (c := "Group") F sc_Group_super__init__ (fun y => rfl) (fun cdv A outer s H E hr => ?_)
  refine ⟨_, (pss_cons (ps_fld (pv 0) (pv 1) rfl) (pss_cons (ps_fld (pv 0) (pv 2) rfl) (pss_cons (ps_fld (pv 0) (pv 3) rfl) (pss_cons (ps_fld (pv 0) (pe_fld (pv 3) rfl) rfl) (pss_cons (ps_fld (pv 0) (pv 4) rfl) (pss_cons (ps_fld (pv 0) (pv 5) rfl) (pss_cons (ps_fld (pv 0) (pv 6) rfl) (pss_cons (ps_fld (pv 0) (pe_callS G_u_byte_size (hr.mono (by decide)) rfl T.g_u_byte_size F_u_byte_size.kp b_u_byte_size (fun σ => passAt (takes_of rfl rfl rfl rfl) σ) (pa_cons (pe_fld (pv 3) rfl) pa_nil)) rfl) (pss_one (ps_fld (pv 0) (pe_callS G_u_byte_size (hr.mono (by decide)) rfl T.g_u_byte_size F_u_byte_size.kp b_u_byte_size (fun σ => passAt (takes_of rfl rfl rfl rfl) σ) (pa_cons (pv 5) pa_nil)) rfl)))))))))), ?_⟩
  rintro ⟨name_, kind_, curve_, base_, order_, cofactor_, ⟨⟩⟩ p_ F0 H0 Q KP L
  show Blk K F0 H0 KP _ [some (.oi (some p_) "Group" [] []), some (.im (toD name_)), some (.im (toD kind_)), some (.im (toD curve_)), some (.im (toD base_)), some (.im (toD order_)), some (.im (toD cofactor_))] (m_Group_super__init__ name_ kind_ curve_ base_ order_ cofactor_)
  unfold m_Group_super__init__
  have hs_ := ((ev_var (i := 1) (x := name_) rfl) : EvX K (W0 E) [some (.oi (some p_) "Group" [] []), some (.im (toD name_)), some (.im (toD kind_)), some (.im (toD curve_)), some (.im (toD base_)), some (.im (toD order_)), some (.im (toD cofactor_))] _ _); replace hs_ : EvX K (W0 E) [some (.oi (some p_) "Group" [] []), some (.im (toD name_)), some (.im (toD kind_)), some (.im (toD curve_)), some (.im (toD base_)), some (.im (toD order_)), some (.im (toD cofactor_))] _ (Res.ok name_ : Res Str) := hs_
  refine blk_seq (blk_fldN (i := 0) L trivial hs_ rfl T.cl_Group T.nf_Group_name (by decide +kernel) (by decide) fun sf_name => ?_)
  show Blk _ _ _ _ _ [some (.oi (some p_) "Group" ["name"] [toD sf_name]), some (.im (toD name_)), some (.im (toD kind_)), some (.im (toD curve_)), some (.im (toD base_)), some (.im (toD order_)), some (.im (toD cofactor_))] _
  try refine Blk.nx ?_
  have hs_ := ((ev_var (i := 2) (x := kind_) rfl) : EvX K (W0 E) [some (.oi (some p_) "Group" ["name"] [toD sf_name]), some (.im (toD name_)), some (.im (toD kind_)), some (.im (toD curve_)), some (.im (toD base_)), some (.im (toD order_)), some (.im (toD cofactor_))] _ _); replace hs_ : EvX K (W0 E) [some (.oi (some p_) "Group" ["name"] [toD sf_name]), some (.im (toD name_)), some (.im (toD kind_)), some (.im (toD curve_)), some (.im (toD base_)), some (.im (toD order_)), some (.im (toD cofactor_))] _ (Res.ok kind_ : Res Str) := hs_
  refine blk_seq (blk_fldN (i := 0) L trivial hs_ rfl T.cl_Group T.nf_Group_kind (by decide +kernel) (by decide) fun sf_kind => ?_)
  show Blk _ _ _ _ _ [some (.oi (some p_) "Group" ["name", "kind"] [toD sf_name, toD sf_kind]), some (.im (toD name_)), some (.im (toD kind_)), some (.im (toD curve_)), some (.im (toD base_)), some (.im (toD order_)), some (.im (toD cofactor_))] _
  try refine Blk.nx ?_
  have hs_ := ((ev_var (i := 3) (x := curve_) rfl) : EvX K (W0 E) [some (.oi (some p_) "Group" ["name", "kind"] [toD sf_name, toD sf_kind]), some (.im (toD name_)), some (.im (toD kind_)), some (.im (toD curve_)), some (.im (toD base_)), some (.im (toD order_)), some (.im (toD cofactor_))] _ _); replace hs_ : EvX K (W0 E) [some (.oi (some p_) "Group" ["name", "kind"] [toD sf_name, toD sf_kind]), some (.im (toD name_)), some (.im (toD kind_)), some (.im (toD curve_)), some (.im (toD base_)), some (.im (toD order_)), some (.im (toD cofactor_))] _ (Res.ok curve_ : Res O_Curve) := hs_
  refine blk_seq (blk_fldN (i := 0) L trivial hs_ rfl T.cl_Group T.nf_Group_curve (by decide +kernel) (by decide) fun sf_curve => ?_)
  show Blk _ _ _ _ _ [some (.oi (some p_) "Group" ["name", "kind", "curve"] [toD sf_name, toD sf_kind, toD sf_curve]), some (.im (toD name_)), some (.im (toD kind_)), some (.im (toD curve_)), some (.im (toD base_)), some (.im (toD order_)), some (.im (toD cofactor_))] _
  try refine Blk.nx ?_
  have hs_ := ((ev_fld (g := fun (x : O_Curve) => x.f_prime) (c := "Curve") (ks := ["prime", "a", "b"]) (j := 0) (ev_var (i := 3) (x := curve_) rfl) T.cl_Curve T.nf_Curve_prime (by decide +kernel) (fun _ => ⟨_, rfl, rfl⟩)) : EvX K (W0 E) [some (.oi (some p_) "Group" ["name", "kind", "curve"] [toD sf_name, toD sf_kind, toD sf_curve]), some (.im (toD name_)), some (.im (toD kind_)), some (.im (toD curve_)), some (.im (toD base_)), some (.im (toD order_)), some (.im (toD cofactor_))] _ _); replace hs_ : EvX K (W0 E) [some (.oi (some p_) "Group" ["name", "kind", "curve"] [toD sf_name, toD sf_kind, toD sf_curve]), some (.im (toD name_)), some (.im (toD kind_)), some (.im (toD curve_)), some (.im (toD base_)), some (.im (toD order_)), some (.im (toD cofactor_))] _ (Res.ok curve_.f_prime : Res Int) := hs_
  refine blk_seq (blk_fldN (i := 0) L trivial hs_ rfl T.cl_Group T.nf_Group_prime (by decide +kernel) (by decide) fun sf_prime => ?_)
  show Blk _ _ _ _ _ [some (.oi (some p_) "Group" ["name", "kind", "curve", "prime"] [toD sf_name, toD sf_kind, toD sf_curve, toD sf_prime]), some (.im (toD name_)), some (.im (toD kind_)), some (.im (toD curve_)), some (.im (toD base_)), some (.im (toD order_)), some (.im (toD cofactor_))] _
  try refine Blk.nx ?_
  have hs_ := ((ev_var (i := 4) (x := base_) rfl) : EvX K (W0 E) [some (.oi (some p_) "Group" ["name", "kind", "curve", "prime"] [toD sf_name, toD sf_kind, toD sf_curve, toD sf_prime]), some (.im (toD name_)), some (.im (toD kind_)), some (.im (toD curve_)), some (.im (toD base_)), some (.im (toD order_)), some (.im (toD cofactor_))] _ _); replace hs_ : EvX K (W0 E) [some (.oi (some p_) "Group" ["name", "kind", "curve", "prime"] [toD sf_name, toD sf_kind, toD sf_curve, toD sf_prime]), some (.im (toD name_)), some (.im (toD kind_)), some (.im (toD curve_)), some (.im (toD base_)), some (.im (toD order_)), some (.im (toD cofactor_))] _ (Res.ok base_ : Res (T2 Int Int)) := hs_
  refine blk_seq (blk_fldN (i := 0) L trivial hs_ rfl T.cl_Group T.nf_Group_base (by decide +kernel) (by decide) fun sf_base => ?_)
  show Blk _ _ _ _ _ [some (.oi (some p_) "Group" ["name", "kind", "curve", "prime", "base"] [toD sf_name, toD sf_kind, toD sf_curve, toD sf_prime, toD sf_base]), some (.im (toD name_)), some (.im (toD kind_)), some (.im (toD curve_)), some (.im (toD base_)), some (.im (toD order_)), some (.im (toD cofactor_))] _
  try refine Blk.nx ?_
  have hs_ := ((ev_var (i := 5) (x := order_) rfl) : EvX K (W0 E) [some (.oi (some p_) "Group" ["name", "kind", "curve", "prime", "base"] [toD sf_name, toD sf_kind, toD sf_curve, toD sf_prime, toD sf_base]), some (.im (toD name_)), some (.im (toD kind_)), some (.im (toD curve_)), some (.im (toD base_)), some (.im (toD order_)), some (.im (toD cofactor_))] _ _); replace hs_ : EvX K (W0 E) [some (.oi (some p_) "Group" ["name", "kind", "curve", "prime", "base"] [toD sf_name, toD sf_kind, toD sf_curve, toD sf_prime, toD sf_base]), some (.im (toD name_)), some (.im (toD kind_)), some (.im (toD curve_)), some (.im (toD base_)), some (.im (toD order_)), some (.im (toD cofactor_))] _ (Res.ok order_ : Res Int) := hs_
  refine blk_seq (blk_fldN (i := 0) L trivial hs_ rfl T.cl_Group T.nf_Group_order (by decide +kernel) (by decide) fun sf_order => ?_)
  show Blk _ _ _ _ _ [some (.oi (some p_) "Group" ["name", "kind", "curve", "prime", "base", "order"] [toD sf_name, toD sf_kind, toD sf_curve, toD sf_prime, toD sf_base, toD sf_order]), some (.im (toD name_)), some (.im (toD kind_)), some (.im (toD curve_)), some (.im (toD base_)), some (.im (toD order_)), some (.im (toD cofactor_))] _
  try refine Blk.nx ?_
  have hs_ := ((ev_var (i := 6) (x := cofactor_) rfl) : EvX K (W0 E) [some (.oi (some p_) "Group" ["name", "kind", "curve", "prime", "base", "order"] [toD sf_name, toD sf_kind, toD sf_curve, toD sf_prime, toD sf_base, toD sf_order]), some (.im (toD name_)), some (.im (toD kind_)), some (.im (toD curve_)), some (.im (toD base_)), some (.im (toD order_)), some (.im (toD cofactor_))] _ _); replace hs_ : EvX K (W0 E) [some (.oi (some p_) "Group" ["name", "kind", "curve", "prime", "base", "order"] [toD sf_name, toD sf_kind, toD sf_curve, toD sf_prime, toD sf_base, toD sf_order]), some (.im (toD name_)), some (.im (toD kind_)), some (.im (toD curve_)), some (.im (toD base_)), some (.im (toD order_)), some (.im (toD cofactor_))] _ (Res.ok cofactor_ : Res Int) := hs_
  refine blk_seq (blk_fldN (i := 0) L trivial hs_ rfl T.cl_Group T.nf_Group_cofactor (by decide +kernel) (by decide) fun sf_cofactor => ?_)
  show Blk _ _ _ _ _ [some (.oi (some p_) "Group" ["name", "kind", "curve", "prime", "base", "order", "cofactor"] [toD sf_name, toD sf_kind, toD sf_curve, toD sf_prime, toD sf_base, toD sf_order, toD sf_cofactor]), some (.im (toD name_)), some (.im (toD kind_)), some (.im (toD curve_)), some (.im (toD base_)), some (.im (toD order_)), some (.im (toD cofactor_))] _
  try refine Blk.nx ?_
  have hs_ := ((ev_call (f := (fun (p : Int × Unit) => m_u_byte_size p.1)) (ea_cons (ev_fld (g := fun (x : O_Curve) => x.f_prime) (c := "Curve") (ks := ["prime", "a", "b"]) (j := 0) (ev_var (i := 3) (x := curve_) rfl) T.cl_Curve T.nf_Curve_prime (by decide +kernel) (fun _ => ⟨_, rfl, rfl⟩)) ea_nil)) : EvX K (W0 E) [some (.oi (some p_) "Group" ["name", "kind", "curve", "prime", "base", "order", "cofactor"] [toD sf_name, toD sf_kind, toD sf_curve, toD sf_prime, toD sf_base, toD sf_order, toD sf_cofactor]), some (.im (toD name_)), some (.im (toD kind_)), some (.im (toD curve_)), some (.im (toD base_)), some (.im (toD order_)), some (.im (toD cofactor_))] _ _); replace hs_ : EvX K (W0 E) [some (.oi (some p_) "Group" ["name", "kind", "curve", "prime", "base", "order", "cofactor"] [toD sf_name, toD sf_kind, toD sf_curve, toD sf_prime, toD sf_base, toD sf_order, toD sf_cofactor]), some (.im (toD name_)), some (.im (toD kind_)), some (.im (toD curve_)), some (.im (toD base_)), some (.im (toD order_)), some (.im (toD cofactor_))] _ (m_u_byte_size curve_.f_prime) := hs_
  refine blk_seq (blk_fldN (i := 0) L trivial hs_ rfl T.cl_Group T.nf_Group_size (by decide +kernel) (by decide) fun sf_size => ?_)
  show Blk _ _ _ _ _ [some (.oi (some p_) "Group" ["name", "kind", "curve", "prime", "base", "order", "cofactor", "size"] [toD sf_name, toD sf_kind, toD sf_curve, toD sf_prime, toD sf_base, toD sf_order, toD sf_cofactor, toD sf_size]), some (.im (toD name_)), some (.im (toD kind_)), some (.im (toD curve_)), some (.im (toD base_)), some (.im (toD order_)), some (.im (toD cofactor_))] _
  try refine Blk.nx ?_
  have hs_ := ((ev_call (f := (fun (p : Int × Unit) => m_u_byte_size p.1)) (ea_cons (ev_var (i := 5) (x := order_) rfl) ea_nil)) : EvX K (W0 E) [some (.oi (some p_) "Group" ["name", "kind", "curve", "prime", "base", "order", "cofactor", "size"] [toD sf_name, toD sf_kind, toD sf_curve, toD sf_prime, toD sf_base, toD sf_order, toD sf_cofactor, toD sf_size]), some (.im (toD name_)), some (.im (toD kind_)), some (.im (toD curve_)), some (.im (toD base_)), some (.im (toD order_)), some (.im (toD cofactor_))] _ _); replace hs_ : EvX K (W0 E) [some (.oi (some p_) "Group" ["name", "kind", "curve", "prime", "base", "order", "cofactor", "size"] [toD sf_name, toD sf_kind, toD sf_curve, toD sf_prime, toD sf_base, toD sf_order, toD sf_cofactor, toD sf_size]), some (.im (toD name_)), some (.im (toD kind_)), some (.im (toD curve_)), some (.im (toD base_)), some (.im (toD order_)), some (.im (toD cofactor_))] _ (m_u_byte_size order_) := hs_
  refine blk_fldN (i := 0) L trivial hs_ rfl T.cl_Group T.nf_Group_order_size (by decide +kernel) (by decide) fun sf_order_size => ?_
  show Blk _ _ _ _ _ [some (.oi (some p_) "Group" ["name", "kind", "curve", "prime", "base", "order", "cofactor", "size", "order_size"] [toD sf_name, toD sf_kind, toD sf_curve, toD sf_prime, toD sf_base, toD sf_order, toD sf_cofactor, toD sf_size, toD sf_order_size]), some (.im (toD name_)), some (.im (toD kind_)), some (.im (toD curve_)), some (.im (toD base_)), some (.im (toD order_)), some (.im (toD cofactor_))] _
  try refine Blk.nx ?_
  exact blk_finI (i := 0) L rfl rfl
noncomputable def m_Curve_u_right_side (self_ : O_Curve) (x_ : Int) : Res Int :=
  (((Res.need (CPowX x_ (3 : Int)) (Res.ok (x_ ^ (3 : Int).toNat))).bind fun (t257 : Int) => (Res.need (CMulX self_.f_a x_) (Res.ok (self_.f_a * x_))).bind fun (t258 : Int) => Res.ok (t257 + t258)).bind fun (t259 : Int) => Res.ok (t259 + self_.f_b)).bind fun (t260 : Int) => Res.need (0 < self_.f_prime) (Res.ok (t260 % self_.f_prime))
theorem ok_Curve_u_right_side {P : Program} {w : World} {K : PySem.W.Frag} {mg : Str → Option Value} {base : Heap} (T : Facts P w K mg) {fd : FuncData} (F : FnP K "_right_side" "Curve._right_side" s_Curve_u_right_side (He.ma K (He.ga K "Curve") "_right_side") fd) :
    FnOk P w K mg base (L2.CX P w) 1 (He.ma K (He.ga K "Curve") "_right_side") fd ["self", "x"] (spM K (fun (p : O_Curve × Int × Unit) => m_Curve_u_right_side p.1 p.2.1)) := by
  refine fn_ok F sc_Curve_u_right_side (fun y => rfl) (fun cdv A outer s H E hr => ?_)
  refine ⟨_, (pss_one (ps_ret (pe_op op_mod (pe_op op_add (pe_op op_add (pe_op op_powX (pv 1) pe_int) (pe_op op_mulX (pe_fld (pv 0) rfl) (pv 1))) (pe_fld (pv 0) rfl)) (pe_fld (pv 0) rfl)))), ?_⟩
  rintro ⟨self_, x_, ⟨⟩⟩ F0 H0 Q KP L
  show Blk K F0 H0 KP _ [some (.im (toD self_)), some (.im (toD x_))] (m_Curve_u_right_side self_ x_)
  unfold m_Curve_u_right_side
  have hr_ := ((ev_op (opx_I (C := (fun _ j => 0 < j)) (g := fun i j => i % j)) mild_need (ev_op (opx_I0 (g := fun i j => i + j)) mild_ok (ev_op (opx_I0 (g := fun i j => i + j)) mild_ok (ev_op (opx_I (C := CPowX) (g := fun i j => i ^ j.toNat)) mild_need (ev_var (i := 1) (x := x_) rfl) (ev_int (i := 3))) (ev_op (opx_I (C := CMulX) (g := fun i j => i * j)) mild_need (ev_fld (g := fun (x : O_Curve) => x.f_a) (c := "Curve") (ks := ["prime", "a", "b"]) (j := 1) (ev_var (i := 0) (x := self_) rfl) T.cl_Curve T.nf_Curve_a (by decide +kernel) (fun _ => ⟨_, rfl, rfl⟩)) (ev_var (i := 1) (x := x_) rfl))) (ev_fld (g := fun (x : O_Curve) => x.f_b) (c := "Curve") (ks := ["prime", "a", "b"]) (j := 2) (ev_var (i := 0) (x := self_) rfl) T.cl_Curve T.nf_Curve_b (by decide +kernel) (fun _ => ⟨_, rfl, rfl⟩))) (ev_fld (g := fun (x : O_Curve) => x.f_prime) (c := "Curve") (ks := ["prime", "a", "b"]) (j := 0) (ev_var (i := 0) (x := self_) rfl) T.cl_Curve T.nf_Curve_prime (by decide +kernel) (fun _ => ⟨_, rfl, rfl⟩))) : EvX K (W0 E) [some (.im (toD self_)), some (.im (toD x_))] _ _); replace hr_ : EvX K (W0 E) [some (.im (toD self_)), some (.im (toD x_))] _ ((((Res.need (CPowX x_ (3 : Int)) (Res.ok (x_ ^ (3 : Int).toNat))).bind fun (t257 : Int) => (Res.need (CMulX self_.f_a x_) (Res.ok (self_.f_a * x_))).bind fun (t258 : Int) => Res.ok (t257 + t258)).bind fun (t259 : Int) => Res.ok (t259 + self_.f_b)).bind fun (t260 : Int) => Res.need (0 < self_.f_prime) (Res.ok (t260 % self_.f_prime))) := hr_
  exact blk_ret L trivial hr_
noncomputable def m_Curve_has (self_ : O_Curve) (point_ : D) : Res Bool :=
  ((Res.ok (toD point_).isNon)).bind fun b => cond b   ((Res.ok true))   (((m_is_residue_pair point_ self_.f_prime).bind fun (t261 : Bool) => Res.ok (!t261)).bind fun b => cond b   ((Res.ok false))   (((((((((Res.ok point_)).bind D.asTu).bind fun (t262 : (Tu D)) => idx (t262).xs (1 : Int)).bind D.asInt).bind fun (t263 : Int) => Res.need (CPowX t263 (2 : Int)) (Res.ok (t263 ^ (2 : Int).toNat))).bind fun (t269 : Int) => (((((((Res.ok point_)).bind D.asTu).bind fun (t264 : (Tu D)) => idx (t264).xs (0 : Int)).bind D.asInt).bind fun a266 => Res.ok (a266, ())).bind fun p268 => m_Curve_u_right_side self_ p268.1).bind fun (t270 : Int) => Res.ok (t269 - t270)).bind fun (t271 : Int) => Res.need (0 < self_.f_prime) (Res.ok (t271 % self_.f_prime))).bind fun (t272 : Int) => Res.ok (decide (t272 = (0 : Int)))))
theorem ok_Curve_has {P : Program} {w : World} {K : PySem.W.Frag} {mg : Str → Option Value} {base : Heap} (T : Facts P w K mg) {fd : FuncData} (F : FnP K "has" "Curve.has" s_Curve_has (He.ma K (He.ga K "Curve") "has") fd) :
    FnOk P w K mg base (L2.CX P w) 4 (He.ma K (He.ga K "Curve") "has") fd ["self", "point"] (spM K (fun (p : O_Curve × D × Unit) => m_Curve_has p.1 p.2.1)) := by
  obtain ⟨fd_Curve_u_right_side, F_Curve_u_right_side⟩ := T.d_Curve_u_right_side
  have G_Curve_u_right_side := ok_Curve_u_right_side (P := P) (w := w) (base := base) T F_Curve_u_right_side
  have b_Curve_u_right_side : Binds K fd_Curve_u_right_side ["self", "x"] [] := F_Curve_u_right_side.bindsN fun _ _ _ _ _ _ us hl => match us, hl with | [_, _], _ => rfl
  obtain ⟨fd_is_residue_pair, F_is_residue_pair⟩ := T.d_is_residue_pair
  have G_is_residue_pair := ok_is_residue_pair (P := P) (w := w) (base := base) T F_is_residue_pair
  have b_is_residue_pair : Binds K fd_is_residue_pair ["value", "modulus"] [] := F_is_residue_pair.bindsN fun _ _ _ _ _ _ us hl => match us, hl with | [_, _], _ => rfl
  refine fn_ok F sc_Curve_has (fun y => rfl) (fun cdv A outer s H E hr => ?_)
  refine ⟨_, (pss_cons (ps_if (pt_cmpR op_isN (pv 1) pe_non (nomark _)) (pss_one (ps_ret pe_bl)) pss_nil) (pss_cons (ps_if (pt_not (pt_val (pe_callS G_is_residue_pair (hr.mono (by decide)) rfl T.g_is_residue_pair F_is_residue_pair.kp b_is_residue_pair (fun σ => passAt (takes_of rfl rfl rfl rfl) σ) (pa_cons (pv 1) (pa_cons (pe_fld (pv 0) rfl) pa_nil))))) (pss_one (ps_ret pe_bl)) pss_nil) (pss_one (ps_ret (pe_cmpR op_eq (pe_op op_mod (pe_op op_sub (pe_op op_powX (pe_ix (cr_ixT rfl) (pv 1) pe_int (fun _ _ => rfl)) pe_int) (pe_methQ (pv 0) T.cl_Curve T.mt_Curve_u_right_side G_Curve_u_right_side (hr.mono (by decide)) b_Curve_u_right_side (fun σ => passAt (takes_of rfl rfl rfl rfl) σ) (pa_cons (pe_ix (cr_ixT rfl) (pv 1) pe_int (fun _ _ => rfl)) pa_nil))) (pe_fld (pv 0) rfl)) pe_int (nomark _)))))), ?_⟩
  rintro ⟨self_, point_, ⟨⟩⟩ F0 H0 Q KP L
  show Blk K F0 H0 KP _ [some (.im (toD self_)), some (.im (toD point_))] (m_Curve_has self_ point_)
  unfold m_Curve_has
  have ht_ := ((et_test (ev_op opx_isN mild_ok (ev_var (i := 1) (x := point_) rfl) ev_non)) : EvT K (W0 E) [some (.im (toD self_)), some (.im (toD point_))] _ _); replace ht_ : EvT K (W0 E) [some (.im (toD self_)), some (.im (toD point_))] _ ((Res.ok (toD point_).isNon)) := ht_
  refine blk_seq (blk_if2 L trivial ht_ ?_ ?_)
  · have hr_ := ((ev_bl (b := true)) : EvX K (W0 E) [some (.im (toD self_)), some (.im (toD point_))] _ _); replace hr_ : EvX K (W0 E) [some (.im (toD self_)), some (.im (toD point_))] _ (Res.ok true : Res Bool) := hr_
    exact blk_ret L trivial hr_
  · refine blk_nil ?_
    try refine Blk.nx ?_
    have ht_ := ((et_not (et_B (ev_call (f := (fun (p : D × Int × Unit) => m_is_residue_pair p.1 p.2.1)) (ea_cons (ev_var (i := 1) (x := point_) rfl) (ea_cons (ev_fld (g := fun (x : O_Curve) => x.f_prime) (c := "Curve") (ks := ["prime", "a", "b"]) (j := 0) (ev_var (i := 0) (x := self_) rfl) T.cl_Curve T.nf_Curve_prime (by decide +kernel) (fun _ => ⟨_, rfl, rfl⟩)) ea_nil))))) : EvT K (W0 E) [some (.im (toD self_)), some (.im (toD point_))] _ _); replace ht_ : EvT K (W0 E) [some (.im (toD self_)), some (.im (toD point_))] _ ((m_is_residue_pair point_ self_.f_prime).bind fun (t261 : Bool) => Res.ok (!t261)) := ht_
    refine blk_seq (blk_if2 L trivial ht_ ?_ ?_)
    · have hr_ := ((ev_bl (b := false)) : EvX K (W0 E) [some (.im (toD self_)), some (.im (toD point_))] _ _); replace hr_ : EvX K (W0 E) [some (.im (toD self_)), some (.im (toD point_))] _ (Res.ok false : Res Bool) := hr_
      exact blk_ret L trivial hr_
    · refine blk_nil ?_
      try refine Blk.nx ?_
      have hr_ := ((ev_op opx_eqI mild_ok (ev_op (opx_I (C := (fun _ j => 0 < j)) (g := fun i j => i % j)) mild_need (ev_op (opx_I0 (g := fun i j => i - j)) mild_ok (ev_op (opx_I (C := CPowX) (g := fun i j => i ^ j.toNat)) mild_need (ev_cast (f := D.asInt) asInt_ok asInt_x (ev_op opx_ixT (fun x y => idx_mild x.xs y) (ev_cast (f := D.asTu) asTu_ok asTu_x (ev_var (i := 1) (x := point_) rfl)) (ev_int (i := 1)))) (ev_int (i := 2))) (ev_meth (c := "Curve") (m := "_right_side") (ks := ["prime", "a", "b"]) (f := (fun (p : O_Curve × Int × Unit) => m_Curve_u_right_side p.1 p.2.1)) (ev_var (i := 0) (x := self_) rfl) (ea_cons (ev_cast (f := D.asInt) asInt_ok asInt_x (ev_op opx_ixT (fun x y => idx_mild x.xs y) (ev_cast (f := D.asTu) asTu_ok asTu_x (ev_var (i := 1) (x := point_) rfl)) (ev_int (i := 0)))) ea_nil) (by decide +kernel) (fun _ => ⟨_, rfl⟩))) (ev_fld (g := fun (x : O_Curve) => x.f_prime) (c := "Curve") (ks := ["prime", "a", "b"]) (j := 0) (ev_var (i := 0) (x := self_) rfl) T.cl_Curve T.nf_Curve_prime (by decide +kernel) (fun _ => ⟨_, rfl, rfl⟩))) (ev_int (i := 0))) : EvX K (W0 E) [some (.im (toD self_)), some (.im (toD point_))] _ _); replace hr_ : EvX K (W0 E) [some (.im (toD self_)), some (.im (toD point_))] _ (((((((((Res.ok point_)).bind D.asTu).bind fun (t262 : (Tu D)) => idx (t262).xs (1 : Int)).bind D.asInt).bind fun (t263 : Int) => Res.need (CPowX t263 (2 : Int)) (Res.ok (t263 ^ (2 : Int).toNat))).bind fun (t269 : Int) => (((((((Res.ok point_)).bind D.asTu).bind fun (t264 : (Tu D)) => idx (t264).xs (0 : Int)).bind D.asInt).bind fun a266 => Res.ok (a266, ())).bind fun p268 => m_Curve_u_right_side self_ p268.1).bind fun (t270 : Int) => Res.ok (t269 - t270)).bind fun (t271 : Int) => Res.need (0 < self_.f_prime) (Res.ok (t271 % self_.f_prime))).bind fun (t272 : Int) => Res.ok (decide (t272 = (0 : Int)))) := hr_
      exact blk_ret L trivial hr_
noncomputable def m_Group_has (self_ : O_Group) (point_ : D) : Res Bool :=
  m_Curve_has self_.f_curve point_
theorem ok_Group_has {P : Program} {w : World} {K : PySem.W.Frag} {mg : Str → Option Value} {base : Heap} (T : Facts P w K mg) {fd : FuncData} (F : FnP K "has" "Group.has" s_Group_has (He.ma K (He.ga K "Group") "has") fd) :
    FnOk P w K mg base (L2.CX P w) 5 (He.ma K (He.ga K "Group") "has") fd ["self", "point"] (spM K (fun (p : O_Group × D × Unit) => m_Group_has p.1 p.2.1)) := by
  obtain ⟨fd_Curve_has, F_Curve_has⟩ := T.d_Curve_has
  have G_Curve_has := ok_Curve_has (P := P) (w := w) (base := base) T F_Curve_has
  have b_Curve_has : Binds K fd_Curve_has ["self", "point"] [] := F_Curve_has.bindsN fun _ _ _ _ _ _ us hl => match us, hl with | [_, _], _ => rfl
  refine fn_ok F sc_Group_has (fun y => rfl) (fun cdv A outer s H E hr => ?_)
  refine ⟨_, (pss_one (ps_ret (pe_methQ (pe_fld (pv 0) rfl) T.cl_Curve T.mt_Curve_has G_Curve_has (hr.mono (by decide)) b_Curve_has (fun σ => passAt (takes_of rfl rfl rfl rfl) σ) (pa_cons (pv 1) pa_nil)))), ?_⟩
  rintro ⟨self_, point_, ⟨⟩⟩ F0 H0 Q KP L
  show Blk K F0 H0 KP _ [some (.im (toD self_)), some (.im (toD point_))] (m_Group_has self_ point_)
  unfold m_Group_has
  have hr_ := ((ev_meth (c := "Curve") (m := "has") (ks := ["prime", "a", "b"]) (f := (fun (p : O_Curve × D × Unit) => m_Curve_has p.1 p.2.1)) (ev_fld (g := fun (x : O_Group) => x.f_curve) (c := "Group") (ks := ["name", "kind", "curve", "prime", "base", "order", "cofactor", "size", "order_size"]) (j := 2) (ev_var (i := 0) (x := self_) rfl) T.cl_Group T.nf_Group_curve (by decide +kernel) (fun _ => ⟨_, rfl, rfl⟩)) (ea_cons (ev_var (i := 1) (x := point_) rfl) ea_nil) (by decide +kernel) (fun _ => ⟨_, rfl⟩)) : EvX K (W0 E) [some (.im (toD self_)), some (.im (toD point_))] _ _); replace hr_ : EvX K (W0 E) [some (.im (toD self_)), some (.im (toD point_))] _ (m_Curve_has self_.f_curve point_) := hr_
  exact blk_ret L trivial hr_
noncomputable def m_EdwardsGroup_has (self_ : O_EdwardsGroup) (point_ : D) : Res Bool :=
  m_EdwardsCurve_has self_.f_curve point_
theorem ok_EdwardsGroup_has {P : Program} {w : World} {K : PySem.W.Frag} {mg : Str → Option Value} {base : Heap} (T : Facts P w K mg) {fd : FuncData} (F : FnP K "has" "EdwardsGroup.has" s_EdwardsGroup_has (He.ma K (He.ga K "EdwardsGroup") "has") fd) :
    FnOk P w K mg base (L2.CX P w) 5 (He.ma K (He.ga K "EdwardsGroup") "has") fd ["self", "point"] (spM K (fun (p : O_EdwardsGroup × D × Unit) => m_EdwardsGroup_has p.1 p.2.1)) := by
  obtain ⟨fd_EdwardsCurve_has, F_EdwardsCurve_has⟩ := T.d_EdwardsCurve_has
  have G_EdwardsCurve_has := ok_EdwardsCurve_has (P := P) (w := w) (base := base) T F_EdwardsCurve_has
  have b_EdwardsCurve_has : Binds K fd_EdwardsCurve_has ["self", "point"] [] := F_EdwardsCurve_has.bindsN fun _ _ _ _ _ _ us hl => match us, hl with | [_, _], _ => rfl
  refine fn_ok F sc_EdwardsGroup_has (fun y => rfl) (fun cdv A outer s H E hr => ?_)
  refine ⟨_, (pss_one (ps_ret (pe_methQ (pe_fld (pv 0) rfl) T.cl_EdwardsCurve T.mt_EdwardsCurve_has G_EdwardsCurve_has (hr.mono (by decide)) b_EdwardsCurve_has (fun σ => passAt (takes_of rfl rfl rfl rfl) σ) (pa_cons (pv 1) pa_nil)))), ?_⟩
  rintro ⟨self_, point_, ⟨⟩⟩ F0 H0 Q KP L
  show Blk K F0 H0 KP _ [some (.im (toD self_)), some (.im (toD point_))] (m_EdwardsGroup_has self_ point_)
  unfold m_EdwardsGroup_has
  have hr_ := ((ev_meth (c := "EdwardsCurve") (m := "has") (ks := ["prime", "a", "d"]) (f := (fun (p : O_EdwardsCurve × D × Unit) => m_EdwardsCurve_has p.1 p.2.1)) (ev_fld (g := fun (x : O_EdwardsGroup) => x.f_curve) (c := "EdwardsGroup") (ks := ["name", "kind", "curve", "prime", "base", "order", "cofactor", "size", "order_size"]) (j := 2) (ev_var (i := 0) (x := self_) rfl) T.cl_EdwardsGroup T.nf_EdwardsGroup_curve (by decide +kernel) (fun _ => ⟨_, rfl, rfl⟩)) (ea_cons (ev_var (i := 1) (x := point_) rfl) ea_nil) (by decide +kernel) (fun _ => ⟨_, rfl⟩)) : EvX K (W0 E) [some (.im (toD self_)), some (.im (toD point_))] _ _); replace hr_ : EvX K (W0 E) [some (.im (toD self_)), some (.im (toD point_))] _ (m_EdwardsCurve_has self_.f_curve point_) := hr_
  exact blk_ret L trivial hr_
noncomputable def m_Group_init (name_ : Str) (curve_ : O_Curve) (base_ : (T2 Int Int)) (order_ : Int) (cofactor_ : Int) : Res O_Group :=
  (cond (toD base_).isNon (Res.ok true) ((m_Curve_has curve_ (toD base_)).bind fun (t276 : Bool) => Res.ok (!t276))).bind fun b => cond b   (Res.exc "NotAPoint")   (((m_multiply_jacobian curve_ order_ (some base_)).bind fun (t277 : (Option (T2 Int Int))) => Res.ok (!(toD t277).isNon)).bind fun b => cond b   (Res.exc "Refused")   (m_Group_super__init__ name_ ("weierstrass" : Str) curve_ base_ order_ cofactor_))
theorem ok_Group_init {P : Program} {w : World} {K : PySem.W.Frag} {mg : Str → Option Value} {base : Heap} (T : Facts P w K mg) {fd : FuncData} {cc cda : Addr} (F : FunS K "__init__" "Group.__init__" (defArgs s_Group_init) (defBody s_Group_init) (defScope s_Group_init) (He.ma K (He.ga K "Group") "__init__") cc cda (He.ga K "Group") fileS fd) :
    FnOk P w K mg base (L2.CX P w) 5 (He.ma K (He.ga K "Group") "__init__") fd ["self", "name", "curve", "base", "order", "cofactor"] (spI K "Group" (fun (p : Str × O_Curve × (T2 Int Int) × Int × Int × Unit) => m_Group_init p.1 p.2.1 p.2.2.1 p.2.2.2.1 p.2.2.2.2.1)) := by
  obtain ⟨fd_Curve_has, F_Curve_has⟩ := T.d_Curve_has
  have G_Curve_has := ok_Curve_has (P := P) (w := w) (base := base) T F_Curve_has
  have b_Curve_has : Binds K fd_Curve_has ["self", "point"] [] := F_Curve_has.bindsN fun _ _ _ _ _ _ us hl => match us, hl with | [_, _], _ => rfl
  obtain ⟨fd_Group_super__init__, F_Group_super__init__⟩ := T.d_Group_super__init__
  have G_Group_super__init__ := ok_Group_super__init__ (P := P) (w := w) (base := base) T F_Group_super__init__
  have b_Group_super__init__ : Binds K fd_Group_super__init__ ["self", "name", "kind", "curve", "base", "order", "cofactor"] [] := F_Group_super__init__.bindsN fun _ _ _ _ _ _ us hl => match us, hl with | [_, _, _, _, _, _, _], _ => rfl
  obtain ⟨fd_multiply_jacobian, F_multiply_jacobian⟩ := T.d_multiply_jacobian
  have G_multiply_jacobian := ok_multiply_jacobian (P := P) (w := w) (base := base) T F_multiply_jacobian
  have b_multiply_jacobian : Binds K fd_multiply_jacobian ["curve", "factor", "point"] [] := F_multiply_jacobian.bindsN fun _ _ _ _ _ _ us hl => match us, hl with | [_, _, _], _ => rfl
  refine fn_okS (c := "Group") F sc_Group_init (fun y => rfl) (fun A outer s H E hr => ?_)
  refine ⟨_, (psf_cons (ps_if (PW.pt (pw_or (pt_cmpR op_isN (pv 3) pe_non (nomark _)) (pw_or1 (pt_not (pt_val (pe_methQ (pv 2) T.cl_Curve T.mt_Curve_has G_Curve_has (hr.mono (by decide)) b_Curve_has (fun σ => passAt (takes_of rfl rfl rfl rfl) σ) (pa_cons (pv 3) pa_nil))))))) (pss_one (ps_raise rfl (takes_of rfl rfl rfl rfl) (pmk_own PySem.F.excBase_ValueError T.x_NotAPoint T.g_NotAPoint T.k_NotAPoint (raises_own T.b_NotAPoint T.t_NotAPoint) rfl))) pss_nil) (psf_cons (ps_if (pt_cmpR op_notN (pe_callS G_multiply_jacobian (hr.mono (by decide)) rfl T.g_multiply_jacobian F_multiply_jacobian.kp b_multiply_jacobian (fun σ => passAt (takes_of rfl rfl rfl rfl) σ) (pa_cons (pv 2) (pa_cons (pv 4) (pa_cons (pv 3) pa_nil)))) pe_non (nomark _)) (pss_one (ps_raise rfl (takes_of rfl rfl rfl rfl) (pmk_own PySem.F.excBase_ValueError T.x_Refused T.g_Refused T.k_Refused (raises_own T.b_Refused T.t_Refused) rfl))) pss_nil) (psf_super F sc_Group_init T.u_Group T.fil T.sup T.n_super rfl rfl (by decide) G_Group_super__init__ (hr.mono (by decide)) b_Group_super__init__ (passes_call (takes_of rfl rfl rfl rfl) fun _ _ _ _ h => h) (pa_cons (pv 1) (pa_cons pe_str (pa_cons (pv 2) (pa_cons (pv 3) (pa_cons (pv 4) (pa_cons (pv 5) pa_nil))))))))), ?_⟩
  rintro ⟨name_, curve_, base_, order_, cofactor_, ⟨⟩⟩ p_ F0 H0 Q KP L
  show Blk K F0 H0 KP _ [some (.oi (some p_) "Group" [] []), some (.im (toD name_)), some (.im (toD curve_)), some (.im (toD base_)), some (.im (toD order_)), some (.im (toD cofactor_))] (m_Group_init name_ curve_ base_ order_ cofactor_)
  unfold m_Group_init
  have ht_ := ((et_or (et_test (ev_op opx_isN mild_ok (ev_var (i := 3) (x := base_) rfl) ev_non)) (et_not (et_B (ev_meth (c := "Curve") (m := "has") (ks := ["prime", "a", "b"]) (f := (fun (p : O_Curve × D × Unit) => m_Curve_has p.1 p.2.1)) (ev_var (i := 2) (x := curve_) rfl) (ea_cons (ev_as (ev_var (i := 3) (x := base_) rfl) toD (fun _ => rfl) rfl) ea_nil) (by decide +kernel) (fun _ => ⟨_, rfl⟩))))) : EvT K (W0 E) [some (.oi (some p_) "Group" [] []), some (.im (toD name_)), some (.im (toD curve_)), some (.im (toD base_)), some (.im (toD order_)), some (.im (toD cofactor_))] _ _); replace ht_ : EvT K (W0 E) [some (.oi (some p_) "Group" [] []), some (.im (toD name_)), some (.im (toD curve_)), some (.im (toD base_)), some (.im (toD order_)), some (.im (toD cofactor_))] _ (cond (toD base_).isNon (Res.ok true) ((m_Curve_has curve_ (toD base_)).bind fun (t276 : Bool) => Res.ok (!t276))) := ht_
  refine blk_seq (blk_if2 L trivial ht_ ?_ ?_)
  · exact blk_raise L trivial
  · refine blk_nil ?_
    try refine Blk.nx ?_
    have ht_ := ((et_test (ev_op opx_notN mild_ok (ev_call (f := (fun (p : O_Curve × Int × (Option (T2 Int Int)) × Unit) => m_multiply_jacobian p.1 p.2.1 p.2.2.1)) (ea_cons (ev_var (i := 2) (x := curve_) rfl) (ea_cons (ev_var (i := 4) (x := order_) rfl) (ea_cons (ev_as (ev_var (i := 3) (x := base_) rfl) some (fun _ => rfl) rfl) ea_nil)))) ev_non)) : EvT K (W0 E) [some (.oi (some p_) "Group" [] []), some (.im (toD name_)), some (.im (toD curve_)), some (.im (toD base_)), some (.im (toD order_)), some (.im (toD cofactor_))] _ _); replace ht_ : EvT K (W0 E) [some (.oi (some p_) "Group" [] []), some (.im (toD name_)), some (.im (toD curve_)), some (.im (toD base_)), some (.im (toD order_)), some (.im (toD cofactor_))] _ ((m_multiply_jacobian curve_ order_ (some base_)).bind fun (t277 : (Option (T2 Int Int))) => Res.ok (!(toD t277).isNon)) := ht_
    refine blk_seq (blk_if2 L trivial ht_ ?_ ?_)
    · exact blk_raise L trivial
    · refine blk_nil ?_
      try refine Blk.nx ?_
      have ha_ := ((ea_cons (ev_var (i := 1) (x := name_) rfl) (ea_cons (ev_str (x := "weierstrass")) (ea_cons (ev_var (i := 2) (x := curve_) rfl) (ea_cons (ev_var (i := 3) (x := base_) rfl) (ea_cons (ev_var (i := 4) (x := order_) rfl) (ea_cons (ev_var (i := 5) (x := cofactor_) rfl) ea_nil)))))) : EvA K (W0 E) [some (.oi (some p_) "Group" [] []), some (.im (toD name_)), some (.im (toD curve_)), some (.im (toD base_)), some (.im (toD order_)), some (.im (toD cofactor_))] _ _)
      exact blk_superI (c := "Group") (fM := (fun (p : Str × Str × O_Curve × (T2 Int Int) × Int × Int × Unit) => m_Group_super__init__ p.1 p.2.1 p.2.2.1 p.2.2.2.1 p.2.2.2.2.1 p.2.2.2.2.2.1)) L ha_ rfl
noncomputable def m_Group_multiply (self_ : O_Group) (factor_ : Int) (point_ : (Option (T2 Int Int))) : Res (Option (T2 Int Int)) :=
  m_multiply_jacobian self_.f_curve factor_ point_
theorem ok_Group_multiply {P : Program} {w : World} {K : PySem.W.Frag} {mg : Str → Option Value} {base : Heap} (T : Facts P w K mg) {fd : FuncData} (F : FnP K "multiply" "Group.multiply" s_Group_multiply (He.ma K (He.ga K "Group") "multiply") fd) :
    FnOk P w K mg base (L2.CX P w) 5 (He.ma K (He.ga K "Group") "multiply") fd ["self", "factor", "point"] (spM K (fun (p : O_Group × Int × (Option (T2 Int Int)) × Unit) => m_Group_multiply p.1 p.2.1 p.2.2.1)) := by
  obtain ⟨fd_multiply_jacobian, F_multiply_jacobian⟩ := T.d_multiply_jacobian
  have G_multiply_jacobian := ok_multiply_jacobian (P := P) (w := w) (base := base) T F_multiply_jacobian
  have b_multiply_jacobian : Binds K fd_multiply_jacobian ["curve", "factor", "point"] [] := F_multiply_jacobian.bindsN fun _ _ _ _ _ _ us hl => match us, hl with | [_, _, _], _ => rfl
  refine fn_ok F sc_Group_multiply (fun y => rfl) (fun cdv A outer s H E hr => ?_)
  refine ⟨_, (pss_one (ps_ret (pe_callS G_multiply_jacobian (hr.mono (by decide)) rfl T.g_multiply_jacobian F_multiply_jacobian.kp b_multiply_jacobian (fun σ => passAt (takes_of rfl rfl rfl rfl) σ) (pa_cons (pe_fld (pv 0) rfl) (pa_cons (pv 1) (pa_cons (pv 2) pa_nil)))))), ?_⟩
  rintro ⟨self_, factor_, point_, ⟨⟩⟩ F0 H0 Q KP L
  show Blk K F0 H0 KP _ [some (.im (toD self_)), some (.im (toD factor_)), some (.im (toD point_))] (m_Group_multiply self_ factor_ point_)
  unfold m_Group_multiply
  have hr_ := ((ev_call (f := (fun (p : O_Curve × Int × (Option (T2 Int Int)) × Unit) => m_multiply_jacobian p.1 p.2.1 p.2.2.1)) (ea_cons (ev_fld (g := fun (x : O_Group) => x.f_curve) (c := "Group") (ks := ["name", "kind", "curve", "prime", "base", "order", "cofactor", "size", "order_size"]) (j := 2) (ev_var (i := 0) (x := self_) rfl) T.cl_Group T.nf_Group_curve (by decide +kernel) (fun _ => ⟨_, rfl, rfl⟩)) (ea_cons (ev_var (i := 1) (x := factor_) rfl) (ea_cons (ev_var (i := 2) (x := point_) rfl) ea_nil)))) : EvX K (W0 E) [some (.im (toD self_)), some (.im (toD factor_)), some (.im (toD point_))] _ _); replace hr_ : EvX K (W0 E) [some (.im (toD self_)), some (.im (toD factor_)), some (.im (toD point_))] _ (m_multiply_jacobian self_.f_curve factor_ point_) := hr_
  exact blk_ret L trivial hr_
noncomputable def m_EdwardsGroup_super__init__ (name_ : Str) (kind_ : Str) (curve_ : O_EdwardsCurve) (base_ : (T2 Int Int)) (order_ : Int) (cofactor_ : Int) : Res O_EdwardsGroup :=
  ((Res.ok name_)).bind fun (sf_name : Str) =>   ((Res.ok kind_)).bind fun (sf_kind : Str) =>   ((Res.ok curve_)).bind fun (sf_curve : O_EdwardsCurve) =>   ((Res.ok curve_.f_prime)).bind fun (sf_prime : Int) =>   ((Res.ok base_)).bind fun (sf_base : (T2 Int Int)) =>   ((Res.ok order_)).bind fun (sf_order : Int) =>   ((Res.ok cofactor_)).bind fun (sf_cofactor : Int) =>   (m_u_byte_size curve_.f_prime).bind fun (sf_size : Int) =>   (m_u_byte_size order_).bind fun (sf_order_size : Int) =>   Res.ok (O_EdwardsGroup.mk sf_name sf_kind sf_curve sf_prime sf_base sf_order sf_cofactor sf_size sf_order_size)
theorem ok_EdwardsGroup_super__init__ {P : Program} {w : World} {K : PySem.W.Frag} {mg : Str → Option Value} {base : Heap} (T : Facts P w K mg) {fd : FuncData} (F : FnP K "__init__" "GroupFields.__init__" s_EdwardsGroup_super__init__ (He.ma K (He.ga K "GroupFields") "__init__") fd) :
    FnOk P w K mg base (L2.CX P w) 2 (He.ma K (He.ga K "GroupFields") "__init__") fd ["self", "name", "kind", "curve", "base", "order", "cofactor"] (spI K "EdwardsGroup" (fun (p : Str × Str × O_EdwardsCurve × (T2 Int Int) × Int × Int × Unit) => m_EdwardsGroup_super__init__ p.1 p.2.1 p.2.2.1 p.2.2.2.1 p.2.2.2.2.1 p.2.2.2.2.2.1)) := by
  obtain ⟨fd_u_byte_size, F_u_byte_size⟩ := T.d_u_byte_size
  have G_u_byte_size := ok_u_byte_size (P := P) (w := w) (base := base) T F_u_byte_size
  have b_u_byte_size : Binds K fd_u_byte_size ["number"] [] := F_u_byte_size.bindsN fun _ _ _ _ _ _ us hl => match us, hl with | [_], _ => rfl
  refine fn_okI (c := "EdwardsGroup") F sc_EdwardsGroup_super__init__ (fun y => rfl) (fun cdv A outer s H E hr => ?_)
  refine ⟨_, (pss_cons (ps_fld (pv 0) (pv 1) rfl) (pss_cons (ps_fld (pv 0) (pv 2) rfl) (pss_cons (ps_fld (pv 0) (pv 3) rfl) (pss_cons (ps_fld (pv 0) (pe_fld (pv 3) rfl) rfl) (pss_cons (ps_fld (pv 0) (pv 4) rfl) (pss_cons (ps_fld (pv 0) (pv 5) rfl) (pss_cons (ps_fld (pv 0) (pv 6) rfl) (pss_cons (ps_fld (pv 0) (pe_callS G_u_byte_size (hr.mono (by decide)) rfl T.g_u_byte_size F_u_byte_size.kp b_u_byte_size (fun σ => passAt (takes_of rfl rfl rfl rfl) σ) (pa_cons (pe_fld (pv 3) rfl) pa_nil)) rfl) (pss_one (ps_fld (pv 0) (pe_callS G_u_byte_size (hr.mono (by decide)) rfl T.g_u_byte_size F_u_byte_size.kp b_u_byte_size (fun σ => passAt (takes_of rfl rfl rfl rfl) σ) (pa_cons (pv 5) pa_nil)) rfl)))))))))), ?_⟩
  rintro ⟨name_, kind_, curve_, base_, order_, cofactor_, ⟨⟩⟩ p_ F0 H0 Q KP L
  show Blk K F0 H0 KP _ [some (.oi (some p_) "EdwardsGroup" [] []), some (.im (toD name_)), some (.im (toD kind_)), some (.im (toD curve_)), some (.im (toD base_)), some (.im (toD order_)), some (.im (toD cofactor_))] (m_EdwardsGroup_super__init__ name_ kind_ curve_ base_ order_ cofactor_)
  unfold m_EdwardsGroup_super__init__
  have hs_ := ((ev_var (i := 1) (x := name_) rfl) : EvX K (W0 E) [some (.oi (some p_) "EdwardsGroup" [] []), some (.im (toD name_)), some (.im (toD kind_)), some (.im (toD curve_)), some (.im (toD base_)), some (.im (toD order_)), some (.im (toD cofactor_))] _ _); replace hs_ : EvX K (W0 E) [some (.oi (some p_) "EdwardsGroup" [] []), some (.im (toD name_)), some (.im (toD kind_)), some (.im (toD curve_)), some (.im (toD base_)), some (.im (toD order_)), some (.im (toD cofactor_))] _ (Res.ok name_ : Res Str) := hs_
  refine blk_seq (blk_fldN (i := 0) L trivial hs_ rfl T.cl_EdwardsGroup T.nf_EdwardsGroup_name (by decide +kernel) (by decide) fun sf_name => ?_)
  show Blk _ _ _ _ _ [some (.oi (some p_) "EdwardsGroup" ["name"] [toD sf_name]), some (.im (toD name_)), some (.im (toD kind_)), some (.im (toD curve_)), some (.im (toD base_)), some (.im (toD order_)), some (.im (toD cofactor_))] _
  try refine Blk.nx ?_
  have hs_ := ((ev_var (i := 2) (x := kind_) rfl) : EvX K (W0 E) [some (.oi (some p_) "EdwardsGroup" ["name"] [toD sf_name]), some (.im (toD name_)), some (.im (toD kind_)), some (.im (toD curve_)), some (.im (toD base_)), some (.im (toD order_)), some (.im (toD cofactor_))] _ _); replace hs_ : EvX K (W0 E) [some (.oi (some p_) "EdwardsGroup" ["name"] [toD sf_name]), some (.im (toD name_)), some (.im (toD kind_)), some (.im (toD curve_)), some (.im (toD base_)), some (.im (toD order_)), some (.im (toD cofactor_))] _ (Res.ok kind_ : Res Str) := hs_
  refine blk_seq (blk_fldN (i := 0) L trivial hs_ rfl T.cl_EdwardsGroup T.nf_EdwardsGroup_kind (by decide +kernel) (by decide) fun sf_kind => ?_)
  show Blk _ _ _ _ _ [some (.oi (some p_) "EdwardsGroup" ["name", "kind"] [toD sf_name, toD sf_kind]), some (.im (toD name_)), some (.im (toD kind_)), some (.im (toD curve_)), some (.im (toD base_)), some (.im (toD order_)), some (.im (toD cofactor_))] _
  try refine Blk.nx ?_
  have hs_ := ((ev_var (i := 3) (x := curve_) rfl) : EvX K (W0 E) [some (.oi (some p_) "EdwardsGroup" ["name", "kind"] [toD sf_name, toD sf_kind]), some (.im (toD name_)), some (.im (toD kind_)), some (.im (toD curve_)), some (.im (toD base_)), some (.im (toD order_)), some (.im (toD cofactor_))] _ _); replace hs_ : EvX K (W0 E) [some (.oi (some p_) "EdwardsGroup" ["name", "kind"] [toD sf_name, toD sf_kind]), some (.im (toD name_)), some (.im (toD kind_)), some (.im (toD curve_)), some (.im (toD base_)), some (.im (toD order_)), some (.im (toD cofactor_))] _ (Res.ok curve_ : Res O_EdwardsCurve) := hs_
  refine blk_seq (blk_fldN (i := 0) L trivial hs_ rfl T.cl_EdwardsGroup T.nf_EdwardsGroup_curve (by decide +kernel) (by decide) fun sf_curve => ?_)
  show Blk _ _ _ _ _ [some (.oi (some p_) "EdwardsGroup" ["name", "kind", "curve"] [toD sf_name, toD sf_kind, toD sf_curve]), some (.im (toD name_)), some (.im (toD kind_)), some (.im (toD curve_)), some (.im (toD base_)), some (.im (toD order_)), some (.im (toD cofactor_))] _
  try refine Blk.nx ?_
  have hs_ := ((ev_fld (g := fun (x : O_EdwardsCurve) => x.f_prime) (c := "EdwardsCurve") (ks := ["prime", "a", "d"]) (j := 0) (ev_var (i := 3) (x := curve_) rfl) T.cl_EdwardsCurve T.nf_EdwardsCurve_prime (by decide +kernel) (fun _ => ⟨_, rfl, rfl⟩)) : EvX K (W0 E) [some (.oi (some p_) "EdwardsGroup" ["name", "kind", "curve"] [toD sf_name, toD sf_kind, toD sf_curve]), some (.im (toD name_)), some (.im (toD kind_)), some (.im (toD curve_)), some (.im (toD base_)), some (.im (toD order_)), some (.im (toD cofactor_))] _ _); replace hs_ : EvX K (W0 E) [some (.oi (some p_) "EdwardsGroup" ["name", "kind", "curve"] [toD sf_name, toD sf_kind, toD sf_curve]), some (.im (toD name_)), some (.im (toD kind_)), some (.im (toD curve_)), some (.im (toD base_)), some (.im (toD order_)), some (.im (toD cofactor_))] _ (Res.ok curve_.f_prime : Res Int) := hs_
  refine blk_seq (blk_fldN (i := 0) L trivial hs_ rfl T.cl_EdwardsGroup T.nf_EdwardsGroup_prime (by decide +kernel) (by decide) fun sf_prime => ?_)
  show Blk _ _ _ _ _ [some (.oi (some p_) "EdwardsGroup" ["name", "kind", "curve", "prime"] [toD sf_name, toD sf_kind, toD sf_curve, toD sf_prime]), some (.im (toD name_)), some (.im (toD kind_)), some (.im (toD curve_)), some (.im (toD base_)), some (.im (toD order_)), some (.im (toD cofactor_))] _
  try refine Blk.nx ?_
  have hs_ := ((ev_var (i := 4) (x := base_) rfl) : EvX K (W0 E) [some (.oi (some p_) "EdwardsGroup" ["name", "kind", "curve", "prime"] [toD sf_name, toD sf_kind, toD sf_curve, toD sf_prime]), some (.im (toD name_)), some (.im (toD kind_)), some (.im (toD curve_)), some (.im (toD base_)), some (.im (toD order_)), some (.im (toD cofactor_))] _ _); replace hs_ : EvX K (W0 E) [some (.oi (some p_) "EdwardsGroup" ["name", "kind", "curve", "prime"] [toD sf_name, toD sf_kind, toD sf_curve, toD sf_prime]), some (.im (toD name_)), some (.im (toD kind_)), some (.im (toD curve_)), some (.im (toD base_)), some (.im (toD order_)), some (.im (toD cofactor_))] _ (Res.ok base_ : Res (T2 Int Int)) := hs_
  refine blk_seq (blk_fldN (i := 0) L trivial hs_ rfl T.cl_EdwardsGroup T.nf_EdwardsGroup_base (by decide +kernel) (by decide) fun sf_base => ?_)
  show Blk _ _ _ _ _ [some (.oi (some p_) "EdwardsGroup" ["name", "kind", "curve", "prime", "base"] [toD sf_name, toD sf_kind, toD sf_curve, toD sf_prime, toD sf_base]), some (.im (toD name_)), some (.im (toD kind_)), some (.im (toD curve_)), some (.im (toD base_)), some (.im (toD order_)), some (.im (toD cofactor_))] _
  try refine Blk.nx ?_
  have hs_ := ((ev_var (i := 5) (x := order_) rfl) : EvX K (W0 E) [some (.oi (some p_) "EdwardsGroup" ["name", "kind", "curve", "prime", "base"] [toD sf_name, toD sf_kind, toD sf_curve, toD sf_prime, toD sf_base]), some (.im (toD name_)), some (.im (toD kind_)), some (.im (toD curve_)), some (.im (toD base_)), some (.im (toD order_)), some (.im (toD cofactor_))] _ _); replace hs_ : EvX K (W0 E) [some (.oi (some p_) "EdwardsGroup" ["name", "kind", "curve", "prime", "base"] [toD sf_name, toD sf_kind, toD sf_curve, toD sf_prime, toD sf_base]), some (.im (toD name_)), some (.im (toD kind_)), some (.im (toD curve_)), some (.im (toD base_)), some (.im (toD order_)), some (.im (toD cofactor_))] _ (Res.ok order_ : Res Int) := hs_
  refine blk_seq (blk_fldN (i := 0) L trivial hs_ rfl T.cl_EdwardsGroup T.nf_EdwardsGroup_order (by decide +kernel) (by decide) fun sf_order => ?_)
  show Blk _ _ _ _ _ [some (.oi (some p_) "EdwardsGroup" ["name", "kind", "curve", "prime", "base", "order"] [toD sf_name, toD sf_kind, toD sf_curve, toD sf_prime, toD sf_base, toD sf_order]), some (.im (toD name_)), some (.im (toD kind_)), some (.im (toD curve_)), some (.im (toD base_)), some (.im (toD order_)), some (.im (toD cofactor_))] _
  try refine Blk.nx ?_
  have hs_ := ((ev_var (i := 6) (x := cofactor_) rfl) : EvX K (W0 E) [some (.oi (some p_) "EdwardsGroup" ["name", "kind", "curve", "prime", "base", "order"] [toD sf_name, toD sf_kind, toD sf_curve, toD sf_prime, toD sf_base, toD sf_order]), some (.im (toD name_)), some (.im (toD kind_)), some (.im (toD curve_)), some (.im (toD base_)), some (.im (toD order_)), some (.im (toD cofactor_))] _ _); replace hs_ : EvX K (W0 E) [some (.oi (some p_) "EdwardsGroup" ["name", "kind", "curve", "prime", "base", "order"] [toD sf_name, toD sf_kind, toD sf_curve, toD sf_prime, toD sf_base, toD sf_order]), some (.im (toD name_)), some (.im (toD kind_)), some (.im (toD curve_)), some (.im (toD base_)), some (.im (toD order_)), some (.im (toD cofactor_))] _ (Res.ok cofactor_ : Res Int) := hs_
  refine blk_seq (blk_fldN (i := 0) L trivial hs_ rfl T.cl_EdwardsGroup T.nf_EdwardsGroup_cofactor (by decide +kernel) (by decide) fun sf_cofactor => ?_)
  show Blk _ _ _ _ _ [some (.oi (some p_) "EdwardsGroup" ["name", "kind", "curve", "prime", "base", "order", "cofactor"] [toD sf_name, toD sf_kind, toD sf_curve, toD sf_prime, toD sf_base, toD sf_order, toD sf_cofactor]), some (.im (toD name_)), some (.im (toD kind_)), some (.im (toD curve_)), some (.im (toD base_)), some (.im (toD order_)), some (.im (toD cofactor_))] _
  try refine Blk.nx ?_
  have hs_ := ((ev_call (f := (fun (p : Int × Unit) => m_u_byte_size p.1)) (ea_cons (ev_fld (g := fun (x : O_EdwardsCurve) => x.f_prime) (c := "EdwardsCurve") (ks := ["prime", "a", "d"]) (j := 0) (ev_var (i := 3) (x := curve_) rfl) T.cl_EdwardsCurve T.nf_EdwardsCurve_prime (by decide +kernel) (fun _ => ⟨_, rfl, rfl⟩)) ea_nil)) : EvX K (W0 E) [some (.oi (some p_) "EdwardsGroup" ["name", "kind", "curve", "prime", "base", "order", "cofactor"] [toD sf_name, toD sf_kind, toD sf_curve, toD sf_prime, toD sf_base, toD sf_order, toD sf_cofactor]), some (.im (toD name_)), some (.im (toD kind_)), some (.im (toD curve_)), some (.im (toD base_)), some (.im (toD order_)), some (.im (toD cofactor_))] _ _); replace hs_ : EvX K (W0 E) [some (.oi (some p_) "EdwardsGroup" ["name", "kind", "curve", "prime", "base", "order", "cofactor"] [toD sf_name, toD sf_kind, toD sf_curve, toD sf_prime, toD sf_base, toD sf_order, toD sf_cofactor]), some (.im (toD name_)), some (.im (toD kind_)), some (.im (toD curve_)), some (.im (toD base_)), some (.im (toD order_)), some (.im (toD cofactor_))] _ (m_u_byte_size curve_.f_prime) := hs_
  refine blk_seq (blk_fldN (i := 0) L trivial hs_ rfl T.cl_EdwardsGroup T.nf_EdwardsGroup_size (by decide +kernel) (by decide) fun sf_size => ?_)
  show Blk _ _ _ _ _ [some (.oi (some p_) "EdwardsGroup" ["name", "kind", "curve", "prime", "base", "order", "cofactor", "size"] [toD sf_name, toD sf_kind, toD sf_curve, toD sf_prime, toD sf_base, toD sf_order, toD sf_cofactor, toD sf_size]), some (.im (toD name_)), some (.im (toD kind_)), some (.im (toD curve_)), some (.im (toD base_)), some (.im (toD order_)), some (.im (toD cofactor_))] _
  try refine Blk.nx ?_
  have hs_ := ((ev_call (f := (fun (p : Int × Unit) => m_u_byte_size p.1)) (ea_cons (ev_var (i := 5) (x := order_) rfl) ea_nil)) : EvX K (W0 E) [some (.oi (some p_) "EdwardsGroup" ["name", "kind", "curve", "prime", "base", "order", "cofactor", "size"] [toD sf_name, toD sf_kind, toD sf_curve, toD sf_prime, toD sf_base, toD sf_order, toD sf_cofactor, toD sf_size]), some (.im (toD name_)), some (.im (toD kind_)), some (.im (toD curve_)), some (.im (toD base_)), some (.im (toD order_)), some (.im (toD cofactor_))] _ _); replace hs_ : EvX K (W0 E) [some (.oi (some p_) "EdwardsGroup" ["name", "kind", "curve", "prime", "base", "order", "cofactor", "size"] [toD sf_name, toD sf_kind, toD sf_curve, toD sf_prime, toD sf_base, toD sf_order, toD sf_cofactor, toD sf_size]), some (.im (toD name_)), some (.im (toD kind_)), some (.im (toD curve_)), some (.im (toD base_)), some (.im (toD order_)), some (.im (toD cofactor_))] _ (m_u_byte_size order_) := hs_
  refine blk_fldN (i := 0) L trivial hs_ rfl T.cl_EdwardsGroup T.nf_EdwardsGroup_order_size (by decide +kernel) (by decide) fun sf_order_size => ?_
  show Blk _ _ _ _ _ [some (.oi (some p_) "EdwardsGroup" ["name", "kind", "curve", "prime", "base", "order", "cofactor", "size", "order_size"] [toD sf_name, toD sf_kind, toD sf_curve, toD sf_prime, toD sf_base, toD sf_order, toD sf_cofactor, toD sf_size, toD sf_order_size]), some (.im (toD name_)), some (.im (toD kind_)), some (.im (toD curve_)), some (.im (toD base_)), some (.im (toD order_)), some (.im (toD cofactor_))] _
  try refine Blk.nx ?_
  exact blk_finI (i := 0) L rfl rfl
noncomputable def m_EdwardsGroup_init (name_ : Str) (curve_ : O_EdwardsCurve) (base_ : (T2 Int Int)) (order_ : Int) (cofactor_ : Int) : Res O_EdwardsGroup :=
  (((m_EdwardsCurve_has curve_ (toD base_)).bind fun (t279 : Bool) => Res.ok (!t279)).bind fun b280 => cond b280 (Res.ok true) (Res.need ((toD base_).okq = true ∧ (toD (T2.mk (0 : Int) (1 : Int))).okq = true) (Res.ok (pyEq (toD base_) (toD (T2.mk (0 : Int) (1 : Int))))))).bind fun b => cond b   (Res.exc "NotAPoint")   (((m_multiply_extended curve_ order_ base_).bind fun (t281 : (T2 Int Int)) => Res.need ((toD t281).okq = true ∧ (toD (T2.mk (0 : Int) (1 : Int))).okq = true) (Res.ok (!pyEq (toD t281) (toD (T2.mk (0 : Int) (1 : Int)))))).bind fun b => cond b   (Res.exc "Refused")   (m_EdwardsGroup_super__init__ name_ ("edwards" : Str) curve_ base_ order_ cofactor_))
theorem ok_EdwardsGroup_init {P : Program} {w : World} {K : PySem.W.Frag} {mg : Str → Option Value} {base : Heap} (T : Facts P w K mg) {fd : FuncData} {cc cda : Addr} (F : FunS K "__init__" "EdwardsGroup.__init__" (defArgs s_EdwardsGroup_init) (defBody s_EdwardsGroup_init) (defScope s_EdwardsGroup_init) (He.ma K (He.ga K "EdwardsGroup") "__init__") cc cda (He.ga K "EdwardsGroup") fileS fd) :
    FnOk P w K mg base (L2.CX P w) 5 (He.ma K (He.ga K "EdwardsGroup") "__init__") fd ["self", "name", "curve", "base", "order", "cofactor"] (spI K "EdwardsGroup" (fun (p : Str × O_EdwardsCurve × (T2 Int Int) × Int × Int × Unit) => m_EdwardsGroup_init p.1 p.2.1 p.2.2.1 p.2.2.2.1 p.2.2.2.2.1)) := by
  obtain ⟨fd_EdwardsCurve_has, F_EdwardsCurve_has⟩ := T.d_EdwardsCurve_has
  have G_EdwardsCurve_has := ok_EdwardsCurve_has (P := P) (w := w) (base := base) T F_EdwardsCurve_has
  have b_EdwardsCurve_has : Binds K fd_EdwardsCurve_has ["self", "point"] [] := F_EdwardsCurve_has.bindsN fun _ _ _ _ _ _ us hl => match us, hl with | [_, _], _ => rfl
  obtain ⟨fd_EdwardsGroup_super__init__, F_EdwardsGroup_super__init__⟩ := T.d_EdwardsGroup_super__init__
  have G_EdwardsGroup_super__init__ := ok_EdwardsGroup_super__init__ (P := P) (w := w) (base := base) T F_EdwardsGroup_super__init__
  have b_EdwardsGroup_super__init__ : Binds K fd_EdwardsGroup_super__init__ ["self", "name", "kind", "curve", "base", "order", "cofactor"] [] := F_EdwardsGroup_super__init__.bindsN fun _ _ _ _ _ _ us hl => match us, hl with | [_, _, _, _, _, _, _], _ => rfl
  obtain ⟨fd_multiply_extended, F_multiply_extended⟩ := T.d_multiply_extended
  have G_multiply_extended := ok_multiply_extended (P := P) (w := w) (base := base) T F_multiply_extended
  have b_multiply_extended : Binds K fd_multiply_extended ["curve", "factor", "point"] [] := F_multiply_extended.bindsN fun _ _ _ _ _ _ us hl => match us, hl with | [_, _, _], _ => rfl
  refine fn_okS (c := "EdwardsGroup") F sc_EdwardsGroup_init (fun y => rfl) (fun A outer s H E hr => ?_)
  refine ⟨_, (psf_cons (ps_if (PW.pt (pw_or (pt_not (pt_val (pe_methQ (pv 2) T.cl_EdwardsCurve T.mt_EdwardsCurve_has G_EdwardsCurve_has (hr.mono (by decide)) b_EdwardsCurve_has (fun σ => passAt (takes_of rfl rfl rfl rfl) σ) (pa_cons (pv 3) pa_nil)))) (pw_or1 (pt_cmpR (op_eqD (Room.units hr)) (pv 3) (pe_tup (pa_cons pe_int (pa_cons pe_int pa_nil))) (nomark _))))) (pss_one (ps_raise rfl (takes_of rfl rfl rfl rfl) (pmk_own PySem.F.excBase_ValueError T.x_NotAPoint T.g_NotAPoint T.k_NotAPoint (raises_own T.b_NotAPoint T.t_NotAPoint) rfl))) pss_nil) (psf_cons (ps_if (pt_cmpR (op_neD (Room.units hr)) (pe_callS G_multiply_extended (hr.mono (by decide)) rfl T.g_multiply_extended F_multiply_extended.kp b_multiply_extended (fun σ => passAt (takes_of rfl rfl rfl rfl) σ) (pa_cons (pv 2) (pa_cons (pv 4) (pa_cons (pv 3) pa_nil)))) (pe_tup (pa_cons pe_int (pa_cons pe_int pa_nil))) (nomark _)) (pss_one (ps_raise rfl (takes_of rfl rfl rfl rfl) (pmk_own PySem.F.excBase_ValueError T.x_Refused T.g_Refused T.k_Refused (raises_own T.b_Refused T.t_Refused) rfl))) pss_nil) (psf_super F sc_EdwardsGroup_init T.u_EdwardsGroup T.fil T.sup T.n_super rfl rfl (by decide) G_EdwardsGroup_super__init__ (hr.mono (by decide)) b_EdwardsGroup_super__init__ (passes_call (takes_of rfl rfl rfl rfl) fun _ _ _ _ h => h) (pa_cons (pv 1) (pa_cons pe_str (pa_cons (pv 2) (pa_cons (pv 3) (pa_cons (pv 4) (pa_cons (pv 5) pa_nil))))))))), ?_⟩
  rintro ⟨name_, curve_, base_, order_, cofactor_, ⟨⟩⟩ p_ F0 H0 Q KP L
  show Blk K F0 H0 KP _ [some (.oi (some p_) "EdwardsGroup" [] []), some (.im (toD name_)), some (.im (toD curve_)), some (.im (toD base_)), some (.im (toD order_)), some (.im (toD cofactor_))] (m_EdwardsGroup_init name_ curve_ base_ order_ cofactor_)
  unfold m_EdwardsGroup_init
  have ht_ := ((et_or (et_not (et_B (ev_meth (c := "EdwardsCurve") (m := "has") (ks := ["prime", "a", "d"]) (f := (fun (p : O_EdwardsCurve × D × Unit) => m_EdwardsCurve_has p.1 p.2.1)) (ev_var (i := 2) (x := curve_) rfl) (ea_cons (ev_as (ev_var (i := 3) (x := base_) rfl) toD (fun _ => rfl) rfl) ea_nil) (by decide +kernel) (fun _ => ⟨_, rfl⟩)))) (et_test (ev_op opx_eqD mild_need (ev_var (i := 3) (x := base_) rfl) (ev_tup (f := (fun y => T2.mk y.1 y.2.1)) (ea_cons (ev_int (i := 0)) (ea_cons (ev_int (i := 1)) ea_nil)) (fun _ => rfl) (fun _ => by show 2 ≤ 100000; decide))))) : EvT K (W0 E) [some (.oi (some p_) "EdwardsGroup" [] []), some (.im (toD name_)), some (.im (toD curve_)), some (.im (toD base_)), some (.im (toD order_)), some (.im (toD cofactor_))] _ _); replace ht_ : EvT K (W0 E) [some (.oi (some p_) "EdwardsGroup" [] []), some (.im (toD name_)), some (.im (toD curve_)), some (.im (toD base_)), some (.im (toD order_)), some (.im (toD cofactor_))] _ (((m_EdwardsCurve_has curve_ (toD base_)).bind fun (t279 : Bool) => Res.ok (!t279)).bind fun b280 => cond b280 (Res.ok true) (Res.need ((toD base_).okq = true ∧ (toD (T2.mk (0 : Int) (1 : Int))).okq = true) (Res.ok (pyEq (toD base_) (toD (T2.mk (0 : Int) (1 : Int))))))) := ht_
  refine blk_seq (blk_if2 L trivial ht_ ?_ ?_)
  · exact blk_raise L trivial
  · refine blk_nil ?_
    try refine Blk.nx ?_
    have ht_ := ((et_test (ev_op opx_neD mild_need (ev_call (f := (fun (p : O_EdwardsCurve × Int × (T2 Int Int) × Unit) => m_multiply_extended p.1 p.2.1 p.2.2.1)) (ea_cons (ev_var (i := 2) (x := curve_) rfl) (ea_cons (ev_var (i := 4) (x := order_) rfl) (ea_cons (ev_var (i := 3) (x := base_) rfl) ea_nil)))) (ev_tup (f := (fun y => T2.mk y.1 y.2.1)) (ea_cons (ev_int (i := 0)) (ea_cons (ev_int (i := 1)) ea_nil)) (fun _ => rfl) (fun _ => by show 2 ≤ 100000; decide)))) : EvT K (W0 E) [some (.oi (some p_) "EdwardsGroup" [] []), some (.im (toD name_)), some (.im (toD curve_)), some (.im (toD base_)), some (.im (toD order_)), some (.im (toD cofactor_))] _ _); replace ht_ : EvT K (W0 E) [some (.oi (some p_) "EdwardsGroup" [] []), some (.im (toD name_)), some (.im (toD curve_)), some (.im (toD base_)), some (.im (toD order_)), some (.im (toD cofactor_))] _ ((m_multiply_extended curve_ order_ base_).bind fun (t281 : (T2 Int Int)) => Res.need ((toD t281).okq = true ∧ (toD (T2.mk (0 : Int) (1 : Int))).okq = true) (Res.ok (!pyEq (toD t281) (toD (T2.mk (0 : Int) (1 : Int)))))) := ht_
    refine blk_seq (blk_if2 L trivial ht_ ?_ ?_)
    · exact blk_raise L trivial
    · refine blk_nil ?_
      try refine Blk.nx ?_
      have ha_ := ((ea_cons (ev_var (i := 1) (x := name_) rfl) (ea_cons (ev_str (x := "edwards")) (ea_cons (ev_var (i := 2) (x := curve_) rfl) (ea_cons (ev_var (i := 3) (x := base_) rfl) (ea_cons (ev_var (i := 4) (x := order_) rfl) (ea_cons (ev_var (i := 5) (x := cofactor_) rfl) ea_nil)))))) : EvA K (W0 E) [some (.oi (some p_) "EdwardsGroup" [] []), some (.im (toD name_)), some (.im (toD curve_)), some (.im (toD base_)), some (.im (toD order_)), some (.im (toD cofactor_))] _ _)
      exact blk_superI (c := "EdwardsGroup") (fM := (fun (p : Str × Str × O_EdwardsCurve × (T2 Int Int) × Int × Int × Unit) => m_EdwardsGroup_super__init__ p.1 p.2.1 p.2.2.1 p.2.2.2.1 p.2.2.2.2.1 p.2.2.2.2.2.1)) L ha_ rfl
noncomputable def m_EdwardsGroup_multiply (self_ : O_EdwardsGroup) (factor_ : Int) (point_ : (T2 Int Int)) : Res (T2 Int Int) :=
  m_multiply_extended self_.f_curve factor_ point_
theorem ok_EdwardsGroup_multiply {P : Program} {w : World} {K : PySem.W.Frag} {mg : Str → Option Value} {base : Heap} (T : Facts P w K mg) {fd : FuncData} (F : FnP K "multiply" "EdwardsGroup.multiply" s_EdwardsGroup_multiply (He.ma K (He.ga K "EdwardsGroup") "multiply") fd) :
    FnOk P w K mg base (L2.CX P w) 5 (He.ma K (He.ga K "EdwardsGroup") "multiply") fd ["self", "factor", "point"] (spM K (fun (p : O_EdwardsGroup × Int × (T2 Int Int) × Unit) => m_EdwardsGroup_multiply p.1 p.2.1 p.2.2.1)) := by
  obtain ⟨fd_multiply_extended, F_multiply_extended⟩ := T.d_multiply_extended
  have G_multiply_extended := ok_multiply_extended (P := P) (w := w) (base := base) T F_multiply_extended
  have b_multiply_extended : Binds K fd_multiply_extended ["curve", "factor", "point"] [] := F_multiply_extended.bindsN fun _ _ _ _ _ _ us hl => match us, hl with | [_, _, _], _ => rfl
  refine fn_ok F sc_EdwardsGroup_multiply (fun y => rfl) (fun cdv A outer s H E hr => ?_)
  refine ⟨_, (pss_one (ps_ret (pe_callS G_multiply_extended (hr.mono (by decide)) rfl T.g_multiply_extended F_multiply_extended.kp b_multiply_extended (fun σ => passAt (takes_of rfl rfl rfl rfl) σ) (pa_cons (pe_fld (pv 0) rfl) (pa_cons (pv 1) (pa_cons (pv 2) pa_nil)))))), ?_⟩
  rintro ⟨self_, factor_, point_, ⟨⟩⟩ F0 H0 Q KP L
  show Blk K F0 H0 KP _ [some (.im (toD self_)), some (.im (toD factor_)), some (.im (toD point_))] (m_EdwardsGroup_multiply self_ factor_ point_)
  unfold m_EdwardsGroup_multiply
  have hr_ := ((ev_call (f := (fun (p : O_EdwardsCurve × Int × (T2 Int Int) × Unit) => m_multiply_extended p.1 p.2.1 p.2.2.1)) (ea_cons (ev_fld (g := fun (x : O_EdwardsGroup) => x.f_curve) (c := "EdwardsGroup") (ks := ["name", "kind", "curve", "prime", "base", "order", "cofactor", "size", "order_size"]) (j := 2) (ev_var (i := 0) (x := self_) rfl) T.cl_EdwardsGroup T.nf_EdwardsGroup_curve (by decide +kernel) (fun _ => ⟨_, rfl, rfl⟩)) (ea_cons (ev_var (i := 1) (x := factor_) rfl) (ea_cons (ev_var (i := 2) (x := point_) rfl) ea_nil)))) : EvX K (W0 E) [some (.im (toD self_)), some (.im (toD factor_)), some (.im (toD point_))] _ _); replace hr_ : EvX K (W0 E) [some (.im (toD self_)), some (.im (toD factor_)), some (.im (toD point_))] _ (m_multiply_extended self_.f_curve factor_ point_) := hr_
  exact blk_ret L trivial hr_
noncomputable def m_Curve_init (prime_ : Int) (a_ : Int) (b_ : Int) : Res O_Curve :=
  (cond (decide (prime_ < (5 : Int))) (Res.ok true) ((Res.ok (decide ((prime_ % (2 : Int)) = (0 : Int)))))).bind fun b => cond b   (Res.exc "OutOfRange")   (((Res.ok prime_)).bind fun (sf_prime : Int) =>   (Res.need (0 < prime_) (Res.ok (a_ % prime_))).bind fun (sf_a : Int) =>   (Res.need (0 < prime_) (Res.ok (b_ % prime_))).bind fun (sf_b : Int) =>   (((((Res.need (CPowX sf_a (3 : Int)) (Res.ok (sf_a ^ (3 : Int).toNat))).bind fun (t282 : Int) => Res.ok ((4 : Int) * t282)).bind fun (t284 : Int) => ((Res.need (CPowX sf_b (2 : Int)) (Res.ok (sf_b ^ (2 : Int).toNat))).bind fun (t283 : Int) => Res.ok ((27 : Int) * t283)).bind fun (t285 : Int) => Res.ok (t284 + t285)).bind fun (t286 : Int) => Res.need (0 < prime_) (Res.ok (t286 % prime_))).bind fun (t287 : Int) => Res.ok (decide (t287 = (0 : Int)))).bind fun b => cond b   (Res.exc "Refused")   (Res.ok (O_Curve.mk sf_prime sf_a sf_b)))
theorem ok_Curve_init {P : Program} {w : World} {K : PySem.W.Frag} {mg : Str → Option Value} {base : Heap} (T : Facts P w K mg) {fd : FuncData} (F : FnP K "__init__" "Curve.__init__" s_Curve_init (He.ma K (He.ga K "Curve") "__init__") fd) :
    FnOk P w K mg base (L2.CX P w) 1 (He.ma K (He.ga K "Curve") "__init__") fd ["self", "prime", "a", "b"] (spI K "Curve" (fun (p : Int × Int × Int × Unit) => m_Curve_init p.1 p.2.1 p.2.2.1)) := by
  refine fn_okI (c := "Curve") F sc_Curve_init (fun y => rfl) (fun cdv A outer s H E hr => ?_)
  refine ⟨_, (pss_cons (ps_if (PW.pt (pw_or (pt_cmpR op_lt (pv 1) pe_int (nomark _)) (pw_or1 (pt_cmpR op_eq (pe_op op_mod (pv 1) pe_int) pe_int (nomark _))))) (pss_one (ps_raise rfl (takes_of rfl rfl rfl rfl) (pmk_own PySem.F.excBase_ValueError T.x_OutOfRange T.g_OutOfRange T.k_OutOfRange (raises_own T.b_OutOfRange T.t_OutOfRange) rfl))) pss_nil) (pss_cons (ps_fld (pv 0) (pv 1) rfl) (pss_cons (ps_fld (pv 0) (pe_op op_mod (pv 2) (pv 1)) rfl) (pss_cons (ps_fld (pv 0) (pe_op op_mod (pv 3) (pv 1)) rfl) (pss_one (ps_if (pt_cmpR op_eq (pe_op op_mod (pe_op op_add (pe_op op_mul pe_int (pe_op op_powX (pe_fld (pv 0) rfl) pe_int)) (pe_op op_mul pe_int (pe_op op_powX (pe_fld (pv 0) rfl) pe_int))) (pv 1)) pe_int (nomark _)) (pss_one (ps_raise rfl (takes_of rfl rfl rfl rfl) (pmk_own PySem.F.excBase_ValueError T.x_Refused T.g_Refused T.k_Refused (raises_own T.b_Refused T.t_Refused) rfl))) pss_nil)))))), ?_⟩
  rintro ⟨prime_, a_, b_, ⟨⟩⟩ p_ F0 H0 Q KP L
  show Blk K F0 H0 KP _ [some (.oi (some p_) "Curve" [] []), some (.im (toD prime_)), some (.im (toD a_)), some (.im (toD b_))] (m_Curve_init prime_ a_ b_)
  unfold m_Curve_init
  have ht_ := ((et_or (et_test (ev_op (opx_B0 (g := fun i j => decide (i < j))) mild_ok (ev_var (i := 1) (x := prime_) rfl) (ev_int (i := 5)))) (et_test (ev_op opx_eqI mild_ok (ev_opI (C := (fun _ j => 0 < j)) (g := fun i j => i % j) (fun x y _ h => by cases h; (show (0 : Int) < _; decide)) (ev_var (i := 1) (x := prime_) rfl) (ev_int (i := 2))) (ev_int (i := 0))))) : EvT K (W0 E) [some (.oi (some p_) "Curve" [] []), some (.im (toD prime_)), some (.im (toD a_)), some (.im (toD b_))] _ _); replace ht_ : EvT K (W0 E) [some (.oi (some p_) "Curve" [] []), some (.im (toD prime_)), some (.im (toD a_)), some (.im (toD b_))] _ (cond (decide (prime_ < (5 : Int))) (Res.ok true) ((Res.ok (decide ((prime_ % (2 : Int)) = (0 : Int)))))) := ht_
  refine blk_seq (blk_if2 L trivial ht_ ?_ ?_)
  · exact blk_raise L trivial
  · refine blk_nil ?_
    try refine Blk.nx ?_
    have hs_ := ((ev_var (i := 1) (x := prime_) rfl) : EvX K (W0 E) [some (.oi (some p_) "Curve" [] []), some (.im (toD prime_)), some (.im (toD a_)), some (.im (toD b_))] _ _); replace hs_ : EvX K (W0 E) [some (.oi (some p_) "Curve" [] []), some (.im (toD prime_)), some (.im (toD a_)), some (.im (toD b_))] _ (Res.ok prime_ : Res Int) := hs_
    refine blk_seq (blk_fldN (i := 0) L trivial hs_ rfl T.cl_Curve T.nf_Curve_prime (by decide +kernel) (by decide) fun sf_prime => ?_)
    show Blk _ _ _ _ _ [some (.oi (some p_) "Curve" ["prime"] [toD sf_prime]), some (.im (toD prime_)), some (.im (toD a_)), some (.im (toD b_))] _
    try refine Blk.nx ?_
    have hs_ := ((ev_op (opx_I (C := (fun _ j => 0 < j)) (g := fun i j => i % j)) mild_need (ev_var (i := 2) (x := a_) rfl) (ev_var (i := 1) (x := prime_) rfl)) : EvX K (W0 E) [some (.oi (some p_) "Curve" ["prime"] [toD sf_prime]), some (.im (toD prime_)), some (.im (toD a_)), some (.im (toD b_))] _ _); replace hs_ : EvX K (W0 E) [some (.oi (some p_) "Curve" ["prime"] [toD sf_prime]), some (.im (toD prime_)), some (.im (toD a_)), some (.im (toD b_))] _ (Res.need (0 < prime_) (Res.ok (a_ % prime_))) := hs_
    refine blk_seq (blk_fldN (i := 0) L trivial hs_ rfl T.cl_Curve T.nf_Curve_a (by decide +kernel) (by decide) fun sf_a => ?_)
    show Blk _ _ _ _ _ [some (.oi (some p_) "Curve" ["prime", "a"] [toD sf_prime, toD sf_a]), some (.im (toD prime_)), some (.im (toD a_)), some (.im (toD b_))] _
    try refine Blk.nx ?_
    have hs_ := ((ev_op (opx_I (C := (fun _ j => 0 < j)) (g := fun i j => i % j)) mild_need (ev_var (i := 3) (x := b_) rfl) (ev_var (i := 1) (x := prime_) rfl)) : EvX K (W0 E) [some (.oi (some p_) "Curve" ["prime", "a"] [toD sf_prime, toD sf_a]), some (.im (toD prime_)), some (.im (toD a_)), some (.im (toD b_))] _ _); replace hs_ : EvX K (W0 E) [some (.oi (some p_) "Curve" ["prime", "a"] [toD sf_prime, toD sf_a]), some (.im (toD prime_)), some (.im (toD a_)), some (.im (toD b_))] _ (Res.need (0 < prime_) (Res.ok (b_ % prime_))) := hs_
    refine blk_seq (blk_fldN (i := 0) L trivial hs_ rfl T.cl_Curve T.nf_Curve_b (by decide +kernel) (by decide) fun sf_b => ?_)
    show Blk _ _ _ _ _ [some (.oi (some p_) "Curve" ["prime", "a", "b"] [toD sf_prime, toD sf_a, toD sf_b]), some (.im (toD prime_)), some (.im (toD a_)), some (.im (toD b_))] _
    try refine Blk.nx ?_
    have ht_ := ((et_test (ev_op opx_eqI mild_ok (ev_op (opx_I (C := (fun _ j => 0 < j)) (g := fun i j => i % j)) mild_need (ev_op (opx_I0 (g := fun i j => i + j)) mild_ok (ev_opI (C := CMul) (g := fun i j => i * j) (fun x y h _ => by cases h; exact .inl (by decide)) (ev_int (i := 4)) (ev_op (opx_I (C := CPowX) (g := fun i j => i ^ j.toNat)) mild_need (ev_fldO (i := 0) (j := 1) (x := sf_a) rfl T.cl_Curve T.nf_Curve_a (by decide +kernel) rfl) (ev_int (i := 3)))) (ev_opI (C := CMul) (g := fun i j => i * j) (fun x y h _ => by cases h; exact .inl (by decide)) (ev_int (i := 27)) (ev_op (opx_I (C := CPowX) (g := fun i j => i ^ j.toNat)) mild_need (ev_fldO (i := 0) (j := 2) (x := sf_b) rfl T.cl_Curve T.nf_Curve_b (by decide +kernel) rfl) (ev_int (i := 2))))) (ev_var (i := 1) (x := prime_) rfl)) (ev_int (i := 0)))) : EvT K (W0 E) [some (.oi (some p_) "Curve" ["prime", "a", "b"] [toD sf_prime, toD sf_a, toD sf_b]), some (.im (toD prime_)), some (.im (toD a_)), some (.im (toD b_))] _ _); replace ht_ : EvT K (W0 E) [some (.oi (some p_) "Curve" ["prime", "a", "b"] [toD sf_prime, toD sf_a, toD sf_b]), some (.im (toD prime_)), some (.im (toD a_)), some (.im (toD b_))] _ (((((Res.need (CPowX sf_a (3 : Int)) (Res.ok (sf_a ^ (3 : Int).toNat))).bind fun (t282 : Int) => Res.ok ((4 : Int) * t282)).bind fun (t284 : Int) => ((Res.need (CPowX sf_b (2 : Int)) (Res.ok (sf_b ^ (2 : Int).toNat))).bind fun (t283 : Int) => Res.ok ((27 : Int) * t283)).bind fun (t285 : Int) => Res.ok (t284 + t285)).bind fun (t286 : Int) => Res.need (0 < prime_) (Res.ok (t286 % prime_))).bind fun (t287 : Int) => Res.ok (decide (t287 = (0 : Int)))) := ht_
    refine blk_if2 L trivial ht_ ?_ ?_
    · exact blk_raise L trivial
    · refine blk_nil ?_
      try refine Blk.nx ?_
      exact blk_finI (i := 0) L rfl rfl
noncomputable def m_Curve_multiply (self_ : O_Curve) (factor_ : Int) (point_ : (Option (T2 Int Int))) : Res (Option (T2 Int Int)) :=
  m_multiply_by_bits 2 self_ (none : (Option (T2 Int Int))) factor_ point_
theorem ok_Curve_multiply {P : Program} {w : World} {K : PySem.W.Frag} {mg : Str → Option Value} {base : Heap} (T : Facts P w K mg) {fd : FuncData} (F : FnP K "multiply" "Curve.multiply" s_Curve_multiply (He.ma K (He.ga K "Curve") "multiply") fd) :
    FnOk P w K mg base (L2.CX P w) 7 (He.ma K (He.ga K "Curve") "multiply") fd ["self", "factor", "point"] (spM K (fun (p : O_Curve × Int × (Option (T2 Int Int)) × Unit) => m_Curve_multiply p.1 p.2.1 p.2.2.1)) := by
  obtain ⟨fd_multiply_by_bits, F_multiply_by_bits⟩ := T.d_multiply_by_bits
  have G_multiply_by_bits := ok_multiply_by_bits (P := P) (w := w) (base := base) T F_multiply_by_bits 2
  have b_multiply_by_bits : Binds K fd_multiply_by_bits ["curve", "neutral", "factor", "point"] [] := F_multiply_by_bits.bindsN fun _ _ _ _ _ _ us hl => match us, hl with | [_, _, _, _], _ => rfl
  refine fn_ok F sc_Curve_multiply (fun y => rfl) (fun cdv A outer s H E hr => ?_)
  refine ⟨_, (pss_one (ps_ret (pe_callS G_multiply_by_bits (hr.mono (by decide)) rfl T.g_multiply_by_bits F_multiply_by_bits.kp b_multiply_by_bits (fun σ => passAt (takes_of rfl rfl rfl rfl) σ) (pa_cons (pv 0) (pa_cons pe_non (pa_cons (pv 1) (pa_cons (pv 2) pa_nil))))))), ?_⟩
  rintro ⟨self_, factor_, point_, ⟨⟩⟩ F0 H0 Q KP L
  show Blk K F0 H0 KP _ [some (.im (toD self_)), some (.im (toD factor_)), some (.im (toD point_))] (m_Curve_multiply self_ factor_ point_)
  unfold m_Curve_multiply
  have hr_ := ((ev_call (f := (fun (p : O_Curve × (Option (T2 Int Int)) × Int × (Option (T2 Int Int)) × Unit) => m_multiply_by_bits 2 p.1 p.2.1 p.2.2.1 p.2.2.2.1)) (ea_cons (ev_var (i := 0) (x := self_) rfl) (ea_cons (ev_noneO (α := (T2 Int Int))) (ea_cons (ev_var (i := 1) (x := factor_) rfl) (ea_cons (ev_var (i := 2) (x := point_) rfl) ea_nil))))) : EvX K (W0 E) [some (.im (toD self_)), some (.im (toD factor_)), some (.im (toD point_))] _ _); replace hr_ : EvX K (W0 E) [some (.im (toD self_)), some (.im (toD factor_)), some (.im (toD point_))] _ (m_multiply_by_bits 2 self_ (none : (Option (T2 Int Int))) factor_ point_) := hr_
  exact blk_ret L trivial hr_
noncomputable def m_group_kind (name_ : Str) : Res Str :=
  ((Res.ok (din k_WEIERSTRASS_NUMBERS name_))).bind fun b => cond b   ((Res.ok ("weierstrass" : Str)))   (((Res.ok (din k_EDWARDS_NUMBERS name_))).bind fun b => cond b   ((Res.ok ("edwards" : Str)))   (Res.exc "Malformed"))
theorem ok_group_kind {P : Program} {w : World} {K : PySem.W.Frag} {mg : Str → Option Value} {base : Heap} (T : Facts P w K mg) {fd : FuncData} (F : FnP K "group_kind" "group_kind" s_group_kind (He.ga K "group_kind") fd) :
    FnOk P w K mg base (L2.CX P w) 1 (He.ga K "group_kind") fd ["name"] (spM K (fun (p : Str × Unit) => m_group_kind p.1)) := by
  refine fn_ok F sc_group_kind (fun y => rfl) (fun cdv A outer s H E hr => ?_)
  refine ⟨_, (pss_cons (ps_if (pt_cmpR (cr_inD T.c_WEIERSTRASS_NUMBERS rfl rfl) (pv 0) (pe_glob (v := .ref (He.ga K "WEIERSTRASS_NUMBERS")) rfl T.c_WEIERSTRASS_NUMBERS.m rfl) rfl) (pss_one (ps_ret pe_str)) pss_nil) (pss_cons (ps_if (pt_cmpR (cr_inD T.c_EDWARDS_NUMBERS rfl rfl) (pv 0) (pe_glob (v := .ref (He.ga K "EDWARDS_NUMBERS")) rfl T.c_EDWARDS_NUMBERS.m rfl) rfl) (pss_one (ps_ret pe_str)) pss_nil) (pss_one (ps_raise rfl (takes_of rfl rfl rfl rfl) (pmk_own PySem.F.excBase_ValueError T.x_Malformed T.g_Malformed T.k_Malformed (raises_own T.b_Malformed T.t_Malformed) rfl))))), ?_⟩
  rintro ⟨name_, ⟨⟩⟩ F0 H0 Q KP L
  show Blk K F0 H0 KP _ [some (.im (toD name_))] (m_group_kind name_)
  unfold m_group_kind
  have ht_ := ((et_test (ev_inD T.c_WEIERSTRASS_NUMBERS false (ev_var (i := 0) (x := name_) rfl))) : EvT K (W0 E) [some (.im (toD name_))] _ _); replace ht_ : EvT K (W0 E) [some (.im (toD name_))] _ ((Res.ok (din k_WEIERSTRASS_NUMBERS name_))) := ht_
  refine blk_seq (blk_if2 L trivial ht_ ?_ ?_)
  · have hr_ := ((ev_str (x := "weierstrass")) : EvX K (W0 E) [some (.im (toD name_))] _ _); replace hr_ : EvX K (W0 E) [some (.im (toD name_))] _ (Res.ok ("weierstrass" : Str) : Res Str) := hr_
    exact blk_ret L trivial hr_
  · refine blk_nil ?_
    try refine Blk.nx ?_
    have ht_ := ((et_test (ev_inD T.c_EDWARDS_NUMBERS false (ev_var (i := 0) (x := name_) rfl))) : EvT K (W0 E) [some (.im (toD name_))] _ _); replace ht_ : EvT K (W0 E) [some (.im (toD name_))] _ ((Res.ok (din k_EDWARDS_NUMBERS name_))) := ht_
    refine blk_seq (blk_if2 L trivial ht_ ?_ ?_)
    · have hr_ := ((ev_str (x := "edwards")) : EvX K (W0 E) [some (.im (toD name_))] _ _); replace hr_ : EvX K (W0 E) [some (.im (toD name_))] _ (Res.ok ("edwards" : Str) : Res Str) := hr_
      exact blk_ret L trivial hr_
    · refine blk_nil ?_
      try refine Blk.nx ?_
      exact blk_raise L trivial
noncomputable def m_group_named (name_ : Str) : Res (Un O_Group O_EdwardsGroup) :=
  ((m_group_kind name_).bind fun (t288 : Str) => Res.ok (t288 == ("weierstrass" : Str))).bind fun b => cond b   ((dget k_WEIERSTRASS_NUMBERS name_).bind fun (u289 : (T5 Int Int Int (T2 Int Int) Int)) =>   (fun (prime_ : Int) (a_ : Int) (b_ : Int) (base_ : (T2 Int Int)) (order_ : Int) => ((((m_Curve_init prime_ a_ b_).bind fun a290 => Res.ok (a290, (base_, (order_, ((1 : Int), ()))))).bind fun a293 => Res.ok (name_, a293)).bind fun p294 => m_Group_init p294.1 p294.2.1 p294.2.2.1 p294.2.2.2.1 p294.2.2.2.2.1).bind fun (x : O_Group) => Res.ok ((Un.l : O_Group → (Un O_Group O_EdwardsGroup)) x)) u289.a u289.b u289.c u289.e u289.f)   ((dget k_EDWARDS_NUMBERS name_).bind fun (u295 : (T5 Int Int (T2 Int Int) Int Int)) =>   (fun (prime_ : Int) (d_ : Int) (base_ : (T2 Int Int)) (order_ : Int) (cofactor_ : Int) => ((((m_EdwardsCurve_init prime_ (-(1 : Int)) d_).bind fun a296 => Res.ok (a296, (base_, (order_, (cofactor_, ()))))).bind fun a299 => Res.ok (name_, a299)).bind fun p300 => m_EdwardsGroup_init p300.1 p300.2.1 p300.2.2.1 p300.2.2.2.1 p300.2.2.2.2.1).bind fun (x : O_EdwardsGroup) => Res.ok ((Un.r : O_EdwardsGroup → (Un O_Group O_EdwardsGroup)) x)) u295.a u295.b u295.c u295.e u295.f)
theorem ok_group_named {P : Program} {w : World} {K : PySem.W.Frag} {mg : Str → Option Value} {base : Heap} (T : Facts P w K mg) {fd : FuncData} (F : FnP K "group_named" "group_named" s_group_named (He.ga K "group_named") fd) :
    FnOk P w K mg base (L2.CX P w) 7 (He.ga K "group_named") fd ["name"] (spM K (fun (p : Str × Unit) => m_group_named p.1)) := by
  obtain ⟨fd_Curve_init, F_Curve_init⟩ := T.d_Curve_init
  have G_Curve_init := ok_Curve_init (P := P) (w := w) (base := base) T F_Curve_init
  have b_Curve_init : Binds K fd_Curve_init ["self", "prime", "a", "b"] [] := F_Curve_init.bindsN fun _ _ _ _ _ _ us hl => match us, hl with | [_, _, _, _], _ => rfl
  obtain ⟨fd_EdwardsCurve_init, F_EdwardsCurve_init⟩ := T.d_EdwardsCurve_init
  have G_EdwardsCurve_init := ok_EdwardsCurve_init (P := P) (w := w) (base := base) T F_EdwardsCurve_init
  have b_EdwardsCurve_init : Binds K fd_EdwardsCurve_init ["self", "prime", "a", "d"] [] := F_EdwardsCurve_init.bindsN fun _ _ _ _ _ _ us hl => match us, hl with | [_, _, _, _], _ => rfl
  obtain ⟨fd_EdwardsGroup_init, cc_EdwardsGroup_init, cda_EdwardsGroup_init, F_EdwardsGroup_init⟩ := T.d_EdwardsGroup_init
  have G_EdwardsGroup_init := ok_EdwardsGroup_init (P := P) (w := w) (base := base) T F_EdwardsGroup_init
  have b_EdwardsGroup_init : Binds K fd_EdwardsGroup_init ["self", "name", "curve", "base", "order", "cofactor"] [] := F_EdwardsGroup_init.bindsN fun _ _ _ _ us hl => match us, hl with | [_, _, _, _, _, _], _ => rfl
  obtain ⟨fd_Group_init, cc_Group_init, cda_Group_init, F_Group_init⟩ := T.d_Group_init
  have G_Group_init := ok_Group_init (P := P) (w := w) (base := base) T F_Group_init
  have b_Group_init : Binds K fd_Group_init ["self", "name", "curve", "base", "order", "cofactor"] [] := F_Group_init.bindsN fun _ _ _ _ us hl => match us, hl with | [_, _, _, _, _, _], _ => rfl
  obtain ⟨fd_group_kind, F_group_kind⟩ := T.d_group_kind
  have G_group_kind := ok_group_kind (P := P) (w := w) (base := base) T F_group_kind
  have b_group_kind : Binds K fd_group_kind ["name"] [] := F_group_kind.bindsN fun _ _ _ _ _ _ us hl => match us, hl with | [_], _ => rfl
  refine fn_ok F sc_group_named (fun y => rfl) (fun cdv A outer s H E hr => ?_)
  refine ⟨_, (pss_cons (ps_if (pt_cmpR op_eq (pe_callS G_group_kind (hr.mono (by decide)) rfl T.g_group_kind F_group_kind.kp b_group_kind (fun σ => passAt (takes_of rfl rfl rfl rfl) σ) (pa_cons (pv 0) pa_nil)) pe_str (nomark _)) (pss_cons (ps_asg (pe_ix (cr_ixD rfl rfl) (pe_glob (v := .ref (He.ga K "WEIERSTRASS_NUMBERS")) rfl T.c_WEIERSTRASS_NUMBERS.m rfl) (pv 0) (fun _ _ => rfl)) (pg_tup rfl (pgs_cons (pg_name (i := 1) sc_group_named.nd rfl (Or.inl rfl)) (pgs_cons (pg_name (i := 2) sc_group_named.nd rfl (Or.inl rfl)) (pgs_cons (pg_name (i := 3) sc_group_named.nd rfl (Or.inl rfl)) (pgs_cons (pg_name (i := 4) sc_group_named.nd rfl (Or.inl rfl)) (pgs_cons (pg_name (i := 5) sc_group_named.nd rfl (Or.inl rfl)) pgs_nil))))))) (pss_one (ps_ret (pe_makeQ T.mk_Group G_Group_init (hr.mono (by decide)) rfl T.g_Group b_Group_init (fun σ => passAt (takes_of rfl rfl rfl rfl) σ) (pa_cons (pv 0) (pa_cons (pe_makeQ T.mk_Curve G_Curve_init (hr.mono (by decide)) rfl T.g_Curve b_Curve_init (fun σ => passAt (takes_of rfl rfl rfl rfl) σ) (pa_cons (pv 1) (pa_cons (pv 2) (pa_cons (pv 3) pa_nil)))) (pa_cons (pv 4) (pa_cons (pv 5) (pa_cons pe_int pa_nil))))))))) pss_nil) (pss_cons (ps_asg (pe_ix (cr_ixD rfl rfl) (pe_glob (v := .ref (He.ga K "EDWARDS_NUMBERS")) rfl T.c_EDWARDS_NUMBERS.m rfl) (pv 0) (fun _ _ => rfl)) (pg_tup rfl (pgs_cons (pg_name (i := 1) sc_group_named.nd rfl (Or.inl rfl)) (pgs_cons (pg_name (i := 6) sc_group_named.nd rfl (Or.inl rfl)) (pgs_cons (pg_name (i := 4) sc_group_named.nd rfl (Or.inl rfl)) (pgs_cons (pg_name (i := 5) sc_group_named.nd rfl (Or.inl rfl)) (pgs_cons (pg_name (i := 7) sc_group_named.nd rfl (Or.inl rfl)) pgs_nil))))))) (pss_one (ps_ret (pe_makeQ T.mk_EdwardsGroup G_EdwardsGroup_init (hr.mono (by decide)) rfl T.g_EdwardsGroup b_EdwardsGroup_init (fun σ => passAt (takes_of rfl rfl rfl rfl) σ) (pa_cons (pv 0) (pa_cons (pe_makeQ T.mk_EdwardsCurve G_EdwardsCurve_init (hr.mono (by decide)) rfl T.g_EdwardsCurve b_EdwardsCurve_init (fun σ => passAt (takes_of rfl rfl rfl rfl) σ) (pa_cons (pv 1) (pa_cons (pe_un un_neg pe_int) (pa_cons (pv 6) pa_nil)))) (pa_cons (pv 4) (pa_cons (pv 5) (pa_cons (pv 7) pa_nil)))))))))), ?_⟩
  rintro ⟨name_, ⟨⟩⟩ F0 H0 Q KP L
  show Blk K F0 H0 KP _ [some (.im (toD name_)), none, none, none, none, none, none, none] (m_group_named name_)
  unfold m_group_named
  have ht_ := ((et_test (ev_op opx_eqS mild_ok (ev_call (f := (fun (p : Str × Unit) => m_group_kind p.1)) (ea_cons (ev_var (i := 0) (x := name_) rfl) ea_nil)) (ev_str (x := "weierstrass")))) : EvT K (W0 E) [some (.im (toD name_)), none, none, none, none, none, none, none] _ _); replace ht_ : EvT K (W0 E) [some (.im (toD name_)), none, none, none, none, none, none, none] _ ((m_group_kind name_).bind fun (t288 : Str) => Res.ok (t288 == ("weierstrass" : Str))) := ht_
  refine blk_seq (blk_if2 L trivial ht_ ?_ ?_)
  · have hs_ := ((ev_dget T.c_WEIERSTRASS_NUMBERS (ev_var (i := 0) (x := name_) rfl)) : EvX K (W0 E) [some (.im (toD name_)), none, none, none, none, none, none, none] _ _); replace hs_ : EvX K (W0 E) [some (.im (toD name_)), none, none, none, none, none, none, none] _ (dget k_WEIERSTRASS_NUMBERS name_) := hs_
    refine blk_seq (blk_asg L trivial hs_ (fun _ => (gx_tup (gxs_cons gx_name (gxs_cons gx_name (gxs_cons gx_name (gxs_cons gx_name (gxs_cons gx_name gxs_nil))))) rfl)) fun u289 => ?_)
    show Blk _ _ _ _ _ [some (.im (toD name_)), some (.im (toD u289.a)), some (.im (toD u289.b)), some (.im (toD u289.c)), some (.im (toD u289.e)), some (.im (toD u289.f)), none, none] ((fun (prime_ : Int) (a_ : Int) (b_ : Int) (base_ : (T2 Int Int)) (order_ : Int) => _) u289.a u289.b u289.c u289.e u289.f)
    generalize u289.a = prime_
    generalize u289.b = a_
    generalize u289.c = b_
    generalize u289.e = base_
    generalize u289.f = order_
    show Blk _ _ _ _ _ [some (.im (toD name_)), some (.im (toD prime_)), some (.im (toD a_)), some (.im (toD b_)), some (.im (toD base_)), some (.im (toD order_)), none, none] _
    try refine Blk.nx ?_
    have hr_ := ((ev_as (ev_make (c := "Group") (f := (fun (p : Str × O_Curve × (T2 Int Int) × Int × Int × Unit) => m_Group_init p.1 p.2.1 p.2.2.1 p.2.2.2.1 p.2.2.2.2.1)) (ea_cons (ev_var (i := 0) (x := name_) rfl) (ea_cons (ev_make (c := "Curve") (f := (fun (p : Int × Int × Int × Unit) => m_Curve_init p.1 p.2.1 p.2.2.1)) (ea_cons (ev_var (i := 1) (x := prime_) rfl) (ea_cons (ev_var (i := 2) (x := a_) rfl) (ea_cons (ev_var (i := 3) (x := b_) rfl) ea_nil)))) (ea_cons (ev_var (i := 4) (x := base_) rfl) (ea_cons (ev_var (i := 5) (x := order_) rfl) (ea_cons (ev_int (i := 1)) ea_nil)))))) (Un.l : O_Group → (Un O_Group O_EdwardsGroup)) (fun _ => rfl) rfl) : EvX K (W0 E) [some (.im (toD name_)), some (.im (toD prime_)), some (.im (toD a_)), some (.im (toD b_)), some (.im (toD base_)), some (.im (toD order_)), none, none] _ _); replace hr_ : EvX K (W0 E) [some (.im (toD name_)), some (.im (toD prime_)), some (.im (toD a_)), some (.im (toD b_)), some (.im (toD base_)), some (.im (toD order_)), none, none] _ (((((m_Curve_init prime_ a_ b_).bind fun a290 => Res.ok (a290, (base_, (order_, ((1 : Int), ()))))).bind fun a293 => Res.ok (name_, a293)).bind fun p294 => m_Group_init p294.1 p294.2.1 p294.2.2.1 p294.2.2.2.1 p294.2.2.2.2.1).bind fun (x : O_Group) => Res.ok ((Un.l : O_Group → (Un O_Group O_EdwardsGroup)) x)) := hr_
    exact blk_ret L trivial hr_
  · refine blk_nil ?_
    try refine Blk.nx ?_
    have hs_ := ((ev_dget T.c_EDWARDS_NUMBERS (ev_var (i := 0) (x := name_) rfl)) : EvX K (W0 E) [some (.im (toD name_)), none, none, none, none, none, none, none] _ _); replace hs_ : EvX K (W0 E) [some (.im (toD name_)), none, none, none, none, none, none, none] _ (dget k_EDWARDS_NUMBERS name_) := hs_
    refine blk_seq (blk_asg L trivial hs_ (fun _ => (gx_tup (gxs_cons gx_name (gxs_cons gx_name (gxs_cons gx_name (gxs_cons gx_name (gxs_cons gx_name gxs_nil))))) rfl)) fun u295 => ?_)
    show Blk _ _ _ _ _ [some (.im (toD name_)), some (.im (toD u295.a)), none, none, some (.im (toD u295.c)), some (.im (toD u295.e)), some (.im (toD u295.b)), some (.im (toD u295.f))] ((fun (prime_ : Int) (d_ : Int) (base_ : (T2 Int Int)) (order_ : Int) (cofactor_ : Int) => _) u295.a u295.b u295.c u295.e u295.f)
    generalize u295.a = prime_
    generalize u295.b = d_
    generalize u295.c = base_
    generalize u295.e = order_
    generalize u295.f = cofactor_
    show Blk _ _ _ _ _ [some (.im (toD name_)), some (.im (toD prime_)), none, none, some (.im (toD base_)), some (.im (toD order_)), some (.im (toD d_)), some (.im (toD cofactor_))] _
    try refine Blk.nx ?_
    have hr_ := ((ev_as (ev_make (c := "EdwardsGroup") (f := (fun (p : Str × O_EdwardsCurve × (T2 Int Int) × Int × Int × Unit) => m_EdwardsGroup_init p.1 p.2.1 p.2.2.1 p.2.2.2.1 p.2.2.2.2.1)) (ea_cons (ev_var (i := 0) (x := name_) rfl) (ea_cons (ev_make (c := "EdwardsCurve") (f := (fun (p : Int × Int × Int × Unit) => m_EdwardsCurve_init p.1 p.2.1 p.2.2.1)) (ea_cons (ev_var (i := 1) (x := prime_) rfl) (ea_cons (ev_un (g := fun i => -i) (ev_int (i := 1))) (ea_cons (ev_var (i := 6) (x := d_) rfl) ea_nil)))) (ea_cons (ev_var (i := 4) (x := base_) rfl) (ea_cons (ev_var (i := 5) (x := order_) rfl) (ea_cons (ev_var (i := 7) (x := cofactor_) rfl) ea_nil)))))) (Un.r : O_EdwardsGroup → (Un O_Group O_EdwardsGroup)) (fun _ => rfl) rfl) : EvX K (W0 E) [some (.im (toD name_)), some (.im (toD prime_)), none, none, some (.im (toD base_)), some (.im (toD order_)), some (.im (toD d_)), some (.im (toD cofactor_))] _ _); replace hr_ : EvX K (W0 E) [some (.im (toD name_)), some (.im (toD prime_)), none, none, some (.im (toD base_)), some (.im (toD order_)), some (.im (toD d_)), some (.im (toD cofactor_))] _ (((((m_EdwardsCurve_init prime_ (-(1 : Int)) d_).bind fun a296 => Res.ok (a296, (base_, (order_, (cofactor_, ()))))).bind fun a299 => Res.ok (name_, a299)).bind fun p300 => m_EdwardsGroup_init p300.1 p300.2.1 p300.2.2.1 p300.2.2.2.1 p300.2.2.2.2.1).bind fun (x : O_EdwardsGroup) => Res.ok ((Un.r : O_EdwardsGroup → (Un O_Group O_EdwardsGroup)) x)) := hr_
    exact blk_ret L trivial hr_
noncomputable def m_u_law_cell (script_ : (Ro Int)) (k_ : Int) : Res Int :=
  ((Res.ok (decide (k_ < ((script_).xs.length : Int))))).bind fun b => cond b   (((idx (script_).xs k_).bind fun a301 => Res.ok (a301, ())).bind fun p303 => Res.ok p303.1)   ((Res.ok (0 : Int)))
theorem ok_u_law_cell {P : Program} {w : World} {K : PySem.W.Frag} {mg : Str → Option Value} {base : Heap} (T : Facts P w K mg) {fd : FuncData} (F : FnP K "_law_cell" "_law_cell" s_u_law_cell (He.ga K "_law_cell") fd) :
    FnOk P w K mg base (L2.CX P w) 1 (He.ga K "_law_cell") fd ["script", "k"] (spM K (fun (p : (Ro Int) × Int × Unit) => m_u_law_cell p.1 p.2.1)) := by
  refine fn_ok F sc_u_law_cell (fun y => rfl) (fun cdv A outer s H E hr => ?_)
  refine ⟨_, (pss_cons (ps_if (pt_cmpR op_lt (pv 1) (pe_callB (cr_len rfl) (by rfl) T.n_len (by decide +kernel) (pa_cons (pv 0) pa_nil)) (nomark _)) (pss_one (ps_ret (pe_callTy call_int1 (by rfl) T.n_int (by decide +kernel) (pa_cons (pe_ix (cr_ixL rfl) (pv 0) (pv 1) (fun _ _ => rfl)) pa_nil)))) pss_nil) (pss_one (ps_ret pe_int))), ?_⟩
  rintro ⟨script_, k_, ⟨⟩⟩ F0 H0 Q KP L
  show Blk K F0 H0 KP _ [some (.im (toD script_)), some (.im (toD k_))] (m_u_law_cell script_ k_)
  unfold m_u_law_cell
  have ht_ := ((et_test (ev_op (opx_B0 (g := fun i j => decide (i < j))) mild_ok (ev_var (i := 1) (x := k_) rfl) (ev_cb cx_lenRo (fun _ _ h => nomatch h) (ea_cons (ev_var (i := 0) (x := script_) rfl) ea_nil)))) : EvT K (W0 E) [some (.im (toD script_)), some (.im (toD k_))] _ _); replace ht_ : EvT K (W0 E) [some (.im (toD script_)), some (.im (toD k_))] _ ((Res.ok (decide (k_ < ((script_).xs.length : Int))))) := ht_
  refine blk_seq (blk_if2 L trivial ht_ ?_ ?_)
  · have hr_ := ((ev_cb cx_int (fun _ _ h => nomatch h) (ea_cons (ev_op opx_ixR (fun x y => idx_mild x.xs y) (ev_var (i := 0) (x := script_) rfl) (ev_var (i := 1) (x := k_) rfl)) ea_nil)) : EvX K (W0 E) [some (.im (toD script_)), some (.im (toD k_))] _ _); replace hr_ : EvX K (W0 E) [some (.im (toD script_)), some (.im (toD k_))] _ (((idx (script_).xs k_).bind fun a301 => Res.ok (a301, ())).bind fun p303 => Res.ok p303.1) := hr_
    exact blk_ret L trivial hr_
  · refine blk_nil ?_
    try refine Blk.nx ?_
    have hr_ := ((ev_int (i := 0)) : EvX K (W0 E) [some (.im (toD script_)), some (.im (toD k_))] _ _); replace hr_ : EvX K (W0 E) [some (.im (toD script_)), some (.im (toD k_))] _ (Res.ok (0 : Int) : Res Int) := hr_
    exact blk_ret L trivial hr_
noncomputable def m_u_law_number_l3 (k3 : Int × Int → Res Int) : List Int → Int × Int → Res Int
  | [], s => k3 s
  | x304 :: r3, (state_, number_) =>   (fun (k_ : Int) => ((Res.ok (((state_ * (48271 : Int)) + (11 : Int)) % (2147483647 : Int)))).bind fun (state_ : Int) =>   ((Res.need (CMulX number_ ((2 : Int) ^ (31 : Int).toNat)) (Res.ok (number_ * ((2 : Int) ^ (31 : Int).toNat)))).bind fun (t305 : Int) => Res.ok (t305 + state_)).bind fun (number_ : Int) =>   m_u_law_number_l3 k3 r3 (state_, number_)) x304
noncomputable def m_u_law_number_k5 (rest_ : Int) : Int × Int → Res Int := fun (state_, number_) =>   ((Res.ok (decide ((rest_ % (4 : Int)) = (2 : Int))))).bind fun b => cond b   ((Res.ok (-number_)))   ((Res.ok number_))
noncomputable def m_u_law_number (cell_ : Int) (salt_ : Int) : Res Int :=
  ((Res.ok (Int.natAbs cell_ : Int))).bind fun (rest_ : Int) =>   ((Res.ok (decide (((10 : Int) ^ (18 : Int).toNat) ≤ rest_)))).bind fun b => cond b   ((Res.ok cell_))   (((Res.ok (decide ((rest_ % (4 : Int)) = (1 : Int))))).bind fun b => cond b   ((Res.ok (((rest_ / (4 : Int)) % (100 : Int)) - (50 : Int))))   (((Res.ok (rest_ + (salt_ * (7919 : Int))))).bind fun (state_ : Int) =>   ((Res.ok (0 : Int))).bind fun (number_ : Int) =>   (Res.need (okRange ((1 : Int) + (rest_ % (9 : Int)))) (Res.ok (pyRange 0 ((1 : Int) + (rest_ % (9 : Int)))))).bind fun (xs306 : List Int) => m_u_law_number_l3 (m_u_law_number_k5 rest_) xs306 (state_, number_)))
theorem ok_u_law_number {P : Program} {w : World} {K : PySem.W.Frag} {mg : Str → Option Value} {base : Heap} (T : Facts P w K mg) {fd : FuncData} (F : FnP K "_law_number" "_law_number" s_u_law_number (He.ga K "_law_number") fd) :
    FnOk P w K mg base (L2.CX P w) 1 (He.ga K "_law_number") fd ["cell", "salt"] (spM K (fun (p : Int × Int × Unit) => m_u_law_number p.1 p.2.1)) := by
  refine fn_ok F sc_u_law_number (fun y => rfl) (fun cdv A outer s H E hr => ?_)
  refine ⟨_, (pss_cons (ps_set (i := 2) sc_u_law_number.nd rfl (Or.inl rfl) (pe_callB call_abs (by rfl) T.n_abs (by decide +kernel) (pa_cons (pv 0) pa_nil))) (pss_cons (ps_if (pt_cmpR op_ge (pv 2) (pe_op op_pow pe_int pe_int) (nomark _)) (pss_one (ps_ret (pv 0))) pss_nil) (pss_cons (ps_if (pt_cmpR op_eq (pe_op op_mod (pv 2) pe_int) pe_int (nomark _)) (pss_one (ps_ret (pe_op op_sub (pe_op op_mod (pe_op op_fdiv (pv 2) pe_int) pe_int) pe_int))) pss_nil) (pss_cons (ps_set (i := 3) sc_u_law_number.nd rfl (Or.inl rfl) (pe_op op_add (pv 2) (pe_op op_mul (pv 1) pe_int))) (pss_cons (ps_set (i := 4) sc_u_law_number.nd rfl (Or.inl rfl) pe_int) (pss_cons (ps_for (passes_of rfl) rfl (pi_range1 rfl T.n_range (pa_cons (pe_op op_add pe_int (pe_op op_mod (pv 2) pe_int)) pa_nil)) (pg_name (i := 5) sc_u_law_number.nd rfl (Or.inl rfl)) (pss_cons (ps_set (i := 3) sc_u_law_number.nd rfl (Or.inl rfl) (pe_op op_mod (pe_op op_add (pe_op op_mul (pv 3) pe_int) pe_int) pe_int)) (pss_one (ps_set (i := 4) sc_u_law_number.nd rfl (Or.inl rfl) (pe_op op_add (pe_op op_mulX (pv 4) (pe_op op_pow pe_int pe_int)) (pv 3)))))) (pss_cons (ps_if (pt_cmpR op_eq (pe_op op_mod (pv 2) pe_int) pe_int (nomark _)) (pss_one (ps_ret (pe_un un_neg (pv 4)))) pss_nil) (pss_one (ps_ret (pv 4)))))))))), ?_⟩
  rintro ⟨cell_, salt_, ⟨⟩⟩ F0 H0 Q KP L
  show Blk K F0 H0 KP _ [some (.im (toD cell_)), some (.im (toD salt_)), none, none, none, none] (m_u_law_number cell_ salt_)
  unfold m_u_law_number
  have hs_ := ((ev_cb cx_abs (fun _ _ h => nomatch h) (ea_cons (ev_var (i := 0) (x := cell_) rfl) ea_nil)) : EvX K (W0 E) [some (.im (toD cell_)), some (.im (toD salt_)), none, none, none, none] _ _); replace hs_ : EvX K (W0 E) [some (.im (toD cell_)), some (.im (toD salt_)), none, none, none, none] _ (Res.ok (Int.natAbs cell_ : Int) : Res Int) := hs_
  refine blk_seq (blk_set (i := 2) L trivial hs_ fun rest_ => ?_)
  show Blk _ _ _ _ _ [some (.im (toD cell_)), some (.im (toD salt_)), some (.im (toD rest_)), none, none, none] _
  try refine Blk.nx ?_
  have ht_ := ((et_test (ev_op (opx_B0 (g := fun i j => decide (j ≤ i))) mild_ok (ev_var (i := 2) (x := rest_) rfl) (ev_opI (C := CPow) (g := fun i j => i ^ j.toNat) (fun x y h1 h2 => by cases h1; cases h2; exact ⟨by decide, by decide, by decide⟩) (ev_int (i := 10)) (ev_int (i := 18))))) : EvT K (W0 E) [some (.im (toD cell_)), some (.im (toD salt_)), some (.im (toD rest_)), none, none, none] _ _); replace ht_ : EvT K (W0 E) [some (.im (toD cell_)), some (.im (toD salt_)), some (.im (toD rest_)), none, none, none] _ ((Res.ok (decide (((10 : Int) ^ (18 : Int).toNat) ≤ rest_)))) := ht_
  refine blk_seq (blk_if2 L trivial ht_ ?_ ?_)
  · have hr_ := ((ev_var (i := 0) (x := cell_) rfl) : EvX K (W0 E) [some (.im (toD cell_)), some (.im (toD salt_)), some (.im (toD rest_)), none, none, none] _ _); replace hr_ : EvX K (W0 E) [some (.im (toD cell_)), some (.im (toD salt_)), some (.im (toD rest_)), none, none, none] _ (Res.ok cell_ : Res Int) := hr_
    exact blk_ret L trivial hr_
  · refine blk_nil ?_
    try refine Blk.nx ?_
    have ht_ := ((et_test (ev_op opx_eqI mild_ok (ev_opI (C := (fun _ j => 0 < j)) (g := fun i j => i % j) (fun x y _ h => by cases h; (show (0 : Int) < _; decide)) (ev_var (i := 2) (x := rest_) rfl) (ev_int (i := 4))) (ev_int (i := 1)))) : EvT K (W0 E) [some (.im (toD cell_)), some (.im (toD salt_)), some (.im (toD rest_)), none, none, none] _ _); replace ht_ : EvT K (W0 E) [some (.im (toD cell_)), some (.im (toD salt_)), some (.im (toD rest_)), none, none, none] _ ((Res.ok (decide ((rest_ % (4 : Int)) = (1 : Int))))) := ht_
    refine blk_seq (blk_if2 L trivial ht_ ?_ ?_)
    · have hr_ := ((ev_op (opx_I0 (g := fun i j => i - j)) mild_ok (ev_opI (C := (fun _ j => 0 < j)) (g := fun i j => i % j) (fun x y _ h => by cases h; (show (0 : Int) < _; decide)) (ev_opI (C := CDiv) (g := fun i j => i / j) (fun x y _ h => by cases h; exact ⟨by decide, by decide⟩) (ev_var (i := 2) (x := rest_) rfl) (ev_int (i := 4))) (ev_int (i := 100))) (ev_int (i := 50))) : EvX K (W0 E) [some (.im (toD cell_)), some (.im (toD salt_)), some (.im (toD rest_)), none, none, none] _ _); replace hr_ : EvX K (W0 E) [some (.im (toD cell_)), some (.im (toD salt_)), some (.im (toD rest_)), none, none, none] _ (Res.ok (((rest_ / (4 : Int)) % (100 : Int)) - (50 : Int)) : Res Int) := hr_
      exact blk_ret L trivial hr_
    · refine blk_nil ?_
      try refine Blk.nx ?_
      have hs_ := ((ev_op (opx_I0 (g := fun i j => i + j)) mild_ok (ev_var (i := 2) (x := rest_) rfl) (ev_opI (C := CMul) (g := fun i j => i * j) (fun x y _ h => by cases h; exact .inr (by decide)) (ev_var (i := 1) (x := salt_) rfl) (ev_int (i := 7919)))) : EvX K (W0 E) [some (.im (toD cell_)), some (.im (toD salt_)), some (.im (toD rest_)), none, none, none] _ _); replace hs_ : EvX K (W0 E) [some (.im (toD cell_)), some (.im (toD salt_)), some (.im (toD rest_)), none, none, none] _ (Res.ok (rest_ + (salt_ * (7919 : Int))) : Res Int) := hs_
      refine blk_seq (blk_set (i := 3) L trivial hs_ fun state_ => ?_)
      show Blk _ _ _ _ _ [some (.im (toD cell_)), some (.im (toD salt_)), some (.im (toD rest_)), some (.im (toD state_)), none, none] _
      try refine Blk.nx ?_
      have hs_ := ((ev_int (i := 0)) : EvX K (W0 E) [some (.im (toD cell_)), some (.im (toD salt_)), some (.im (toD rest_)), some (.im (toD state_)), none, none] _ _); replace hs_ : EvX K (W0 E) [some (.im (toD cell_)), some (.im (toD salt_)), some (.im (toD rest_)), some (.im (toD state_)), none, none] _ (Res.ok (0 : Int) : Res Int) := hs_
      refine blk_seq (blk_set (i := 4) L trivial hs_ fun number_ => ?_)
      show Blk _ _ _ _ _ [some (.im (toD cell_)), some (.im (toD salt_)), some (.im (toD rest_)), some (.im (toD state_)), some (.im (toD number_)), none] _
      try refine Blk.nx ?_
      have hi_ := ((ei_range1 (ev_op (opx_I0 (g := fun i j => i + j)) mild_ok (ev_int (i := 1)) (ev_opI (C := (fun _ j => 0 < j)) (g := fun i j => i % j) (fun x y _ h => by cases h; (show (0 : Int) < _; decide)) (ev_var (i := 2) (x := rest_) rfl) (ev_int (i := 9))))) : EvI K (W0 E) [some (.im (toD cell_)), some (.im (toD salt_)), some (.im (toD rest_)), some (.im (toD state_)), some (.im (toD number_)), none] _ _); replace hi_ : EvI K (W0 E) [some (.im (toD cell_)), some (.im (toD salt_)), some (.im (toD rest_)), some (.im (toD state_)), some (.im (toD number_)), none] _ (Res.need (okRange ((1 : Int) + (rest_ % (9 : Int)))) (Res.ok (pyRange 0 ((1 : Int) + (rest_ % (9 : Int)))))) := hi_
      refine blk_seq (blk_for (S := Int × Int) (m_u_law_number_l3 (m_u_law_number_k5 rest_)) (m_u_law_number_k5 rest_) (fun (state_, number_) => [some (.im (toD cell_)), some (.im (toD salt_)), some (.im (toD rest_)), some (.im (toD state_)), some (.im (toD number_)), none]) (state_, number_) L trivial hi_ (fun _ => gx_name) (.same (.same (.same (.same (.same (.same .nil)))))) (fun _ => rfl) ?_ ?_)
      · intro F3 L3 hB3 x304 r3 s_ N_ hN3
        obtain ⟨state_, number_⟩ := s_
        show Blk _ _ _ _ _ [some (.im (toD cell_)), some (.im (toD salt_)), some (.im (toD rest_)), some (.im (toD state_)), some (.im (toD number_)), some (.im (toD x304))] (m_u_law_number_l3 (m_u_law_number_k5 rest_) (x304 :: r3) (state_, number_))
        rw [m_u_law_number_l3]
        show Blk _ _ _ _ _ _ ((fun (k_ : Int) => _) x304)
        generalize x304 = k_
        show Blk _ _ _ _ _ [some (.im (toD cell_)), some (.im (toD salt_)), some (.im (toD rest_)), some (.im (toD state_)), some (.im (toD number_)), some (.im (toD k_))] _
        have hs_ := ((ev_opI (C := (fun _ j => 0 < j)) (g := fun i j => i % j) (fun x y _ h => by cases h; (show (0 : Int) < _; decide)) (ev_op (opx_I0 (g := fun i j => i + j)) mild_ok (ev_opI (C := CMul) (g := fun i j => i * j) (fun x y _ h => by cases h; exact .inr (by decide)) (ev_var (i := 3) (x := state_) rfl) (ev_int (i := 48271))) (ev_int (i := 11))) (ev_int (i := 2147483647))) : EvX K (W0 E) [some (.im (toD cell_)), some (.im (toD salt_)), some (.im (toD rest_)), some (.im (toD state_)), some (.im (toD number_)), some (.im (toD k_))] _ _); replace hs_ : EvX K (W0 E) [some (.im (toD cell_)), some (.im (toD salt_)), some (.im (toD rest_)), some (.im (toD state_)), some (.im (toD number_)), some (.im (toD k_))] _ (Res.ok (((state_ * (48271 : Int)) + (11 : Int)) % (2147483647 : Int)) : Res Int) := hs_
        refine blk_seq (blk_set (i := 3) L3 trivial hs_ fun state_ => ?_)
        show Blk _ _ _ _ _ [some (.im (toD cell_)), some (.im (toD salt_)), some (.im (toD rest_)), some (.im (toD state_)), some (.im (toD number_)), some (.im (toD k_))] _
        try refine Blk.nx ?_
        have hs_ := ((ev_op (opx_I0 (g := fun i j => i + j)) mild_ok (ev_op (opx_I (C := CMulX) (g := fun i j => i * j)) mild_need (ev_var (i := 4) (x := number_) rfl) (ev_opI (C := CPow) (g := fun i j => i ^ j.toNat) (fun x y h1 h2 => by cases h1; cases h2; exact ⟨by decide, by decide, by decide⟩) (ev_int (i := 2)) (ev_int (i := 31)))) (ev_var (i := 3) (x := state_) rfl)) : EvX K (W0 E) [some (.im (toD cell_)), some (.im (toD salt_)), some (.im (toD rest_)), some (.im (toD state_)), some (.im (toD number_)), some (.im (toD k_))] _ _); replace hs_ : EvX K (W0 E) [some (.im (toD cell_)), some (.im (toD salt_)), some (.im (toD rest_)), some (.im (toD state_)), some (.im (toD number_)), some (.im (toD k_))] _ ((Res.need (CMulX number_ ((2 : Int) ^ (31 : Int).toNat)) (Res.ok (number_ * ((2 : Int) ^ (31 : Int).toNat)))).bind fun (t305 : Int) => Res.ok (t305 + state_)) := hs_
        refine blk_set (i := 4) L3 trivial hs_ fun number_ => ?_
        show Blk _ _ _ _ _ [some (.im (toD cell_)), some (.im (toD salt_)), some (.im (toD rest_)), some (.im (toD state_)), some (.im (toD number_)), some (.im (toD k_))] _
        try refine Blk.nx ?_
        exact (hN3 (state_, number_)).weak (.same (.same (.same (.same (.same (.drop .nil))))))
      · rintro ⟨state_, number_⟩
        show Blk _ _ _ _ _ [some (.im (toD cell_)), some (.im (toD salt_)), some (.im (toD rest_)), some (.im (toD state_)), some (.im (toD number_)), none] ((m_u_law_number_k5 rest_) (state_, number_))
        unfold m_u_law_number_k5
        try refine Blk.nx ?_
        have ht_ := ((et_test (ev_op opx_eqI mild_ok (ev_opI (C := (fun _ j => 0 < j)) (g := fun i j => i % j) (fun x y _ h => by cases h; (show (0 : Int) < _; decide)) (ev_var (i := 2) (x := rest_) rfl) (ev_int (i := 4))) (ev_int (i := 2)))) : EvT K (W0 E) [some (.im (toD cell_)), some (.im (toD salt_)), some (.im (toD rest_)), some (.im (toD state_)), some (.im (toD number_)), none] _ _); replace ht_ : EvT K (W0 E) [some (.im (toD cell_)), some (.im (toD salt_)), some (.im (toD rest_)), some (.im (toD state_)), some (.im (toD number_)), none] _ ((Res.ok (decide ((rest_ % (4 : Int)) = (2 : Int))))) := ht_
        refine blk_seq (blk_if2 L trivial ht_ ?_ ?_)
        · have hr_ := ((ev_un (g := fun i => -i) (ev_var (i := 4) (x := number_) rfl)) : EvX K (W0 E) [some (.im (toD cell_)), some (.im (toD salt_)), some (.im (toD rest_)), some (.im (toD state_)), some (.im (toD number_)), none] _ _); replace hr_ : EvX K (W0 E) [some (.im (toD cell_)), some (.im (toD salt_)), some (.im (toD rest_)), some (.im (toD state_)), some (.im (toD number_)), none] _ (Res.ok (-number_) : Res Int) := hr_
          exact blk_ret L trivial hr_
        · refine blk_nil ?_
          try refine Blk.nx ?_
          have hr_ := ((ev_var (i := 4) (x := number_) rfl) : EvX K (W0 E) [some (.im (toD cell_)), some (.im (toD salt_)), some (.im (toD rest_)), some (.im (toD state_)), some (.im (toD number_)), none] _ _); replace hr_ : EvX K (W0 E) [some (.im (toD cell_)), some (.im (toD salt_)), some (.im (toD rest_)), some (.im (toD state_)), some (.im (toD number_)), none] _ (Res.ok number_ : Res Int) := hr_
          exact blk_ret L trivial hr_
noncomputable def m_law_k3 (script_ : (Ro Int)) (group_ : O_Group) (point_ : (Option (T2 Int Int))) : Int → Res Bool := fun factor_ =>   (m_Group_multiply group_ factor_ point_).bind fun (one_ : (Option (T2 Int Int))) =>   (((m_Group_has group_ (toD one_)).bind fun (t340 : Bool) => Res.ok (!t340)).bind fun b342 => cond b342 (Res.ok true) ((m_multiply_jacobian group_.f_curve factor_ point_).bind fun (t341 : (Option (T2 Int Int))) => Res.need ((toD t341).okq = true ∧ (toD one_).okq = true) (Res.ok (!pyEq (toD t341) (toD one_))))).bind fun b => cond b   ((Res.ok false))   (((((((m_u_law_cell script_ (4 : Int)).bind fun a343 => Res.ok (a343, ())).bind fun p345 => Res.ok (Int.natAbs p345.1 : Int)).bind fun (t346 : Int) => Res.ok (t346 % (3 : Int))).bind fun (t347 : Int) => Res.ok (decide (t347 = (0 : Int)))).bind fun b350 => cond b350 ((m_Curve_multiply group_.f_curve factor_ point_).bind fun (t349 : (Option (T2 Int Int))) => Res.need ((toD t349).okq = true ∧ (toD one_).okq = true) (Res.ok (!pyEq (toD t349) (toD one_)))) (Res.ok false)).bind fun b => cond b   ((Res.ok false))   ((((m_Group_multiply group_ group_.f_order point_).bind fun (t352 : (Option (T2 Int Int))) => Res.ok (!(toD t352).isNon)).bind fun b358 => cond b358 (Res.ok true) ((((Res.need (0 < group_.f_order) (Res.ok (factor_ % group_.f_order))).bind fun a354 => Res.ok (a354, (point_, ()))).bind fun p356 => m_Group_multiply group_ p356.1 p356.2.1).bind fun (t357 : (Option (T2 Int Int))) => Res.need ((toD t357).okq = true ∧ (toD one_).okq = true) (Res.ok (!pyEq (toD t357) (toD one_))))).bind fun b => cond b   ((Res.ok false))   ((m_Group_multiply group_ (group_.f_order - factor_) point_).bind fun (t361 : (Option (T2 Int Int))) => (m_Group_negate group_ one_).bind fun (t362 : (Option (T2 Int Int))) => Res.need ((toD t361).okq = true ∧ (toD t362).okq = true) (Res.ok (pyEq (toD t361) (toD t362))))))
noncomputable def m_law_k2 (script_ : (Ro Int)) (group_ : O_Group) (point_ : (Option (T2 Int Int))) : Int → Res Bool := fun factor_ =>   (((((m_u_law_cell script_ (3 : Int)).bind fun a333 => Res.ok (a333, ())).bind fun p335 => Res.ok (Int.natAbs p335.1 : Int)).bind fun (t336 : Int) => Res.ok (t336 % (3 : Int))).bind fun (t337 : Int) => Res.ok (decide (t337 = (2 : Int)))).bind fun b => cond b   (((Res.ok (-factor_))).bind fun (factor_ : Int) =>   (m_law_k3 script_ group_ point_) factor_)   ((m_law_k3 script_ group_ point_) factor_)
noncomputable def m_law_k1 (script_ : (Ro Int)) : O_Group → Res Bool := fun group_ =>   ((((((m_u_law_cell script_ (1 : Int)).bind fun a313 => Res.ok (a313, ((1 : Int), ()))).bind fun p315 => m_u_law_number p315.1 p315.2.1).bind fun a316 => Res.ok (a316, ())).bind fun p318 => Res.ok (Int.natAbs p318.1 : Int)).bind fun (t319 : Int) => Res.need (0 < group_.f_order) (Res.ok (t319 % group_.f_order))).bind fun (start_ : Int) =>   (m_Group_multiply group_ start_ (some group_.f_base)).bind fun (point_ : (Option (T2 Int Int))) =>   ((((m_u_law_cell script_ (2 : Int)).bind fun a321 => Res.ok (a321, ((2 : Int), ()))).bind fun p323 => m_u_law_number p323.1 p323.2.1).bind fun (t326 : Int) => (((Res.need (CMulX ((2 : Int) ^ (64 : Int).toNat) ((2 : Int) ^ (64 : Int).toNat)) (Res.ok (((2 : Int) ^ (64 : Int).toNat) * ((2 : Int) ^ (64 : Int).toNat)))).bind fun (t324 : Int) => Res.need (CMulX t324 ((2 : Int) ^ (64 : Int).toNat)) (Res.ok (t324 * ((2 : Int) ^ (64 : Int).toNat)))).bind fun (t325 : Int) => Res.need (CMulX t325 ((2 : Int) ^ (64 : Int).toNat)) (Res.ok (t325 * ((2 : Int) ^ (64 : Int).toNat)))).bind fun (t327 : Int) => Res.need (0 < t327) (Res.ok (t326 % t327))).bind fun (factor_ : Int) =>   (((((m_u_law_cell script_ (3 : Int)).bind fun a328 => Res.ok (a328, ())).bind fun p330 => Res.ok (Int.natAbs p330.1 : Int)).bind fun (t331 : Int) => Res.ok (t331 % (3 : Int))).bind fun (t332 : Int) => Res.ok (decide (t332 = (1 : Int)))).bind fun b => cond b   (((((((((m_u_law_cell script_ (3 : Int)).bind fun a363 => Res.ok (a363, ())).bind fun p365 => Res.ok (Int.natAbs p365.1 : Int)).bind fun (t366 : Int) => Res.ok (t366 / (3 : Int))).bind fun (t367 : Int) => Res.ok (t367 % (3 : Int))).bind fun (t368 : Int) => Res.need (CMulX group_.f_order t368) (Res.ok (group_.f_order * t368))).bind fun (t369 : Int) => Res.ok (t369 + (2 : Int))).bind fun (t375 : Int) => (((((m_u_law_cell script_ (3 : Int)).bind fun a370 => Res.ok (a370, ())).bind fun p372 => Res.ok (Int.natAbs p372.1 : Int)).bind fun (t373 : Int) => Res.ok (t373 / (9 : Int))).bind fun (t374 : Int) => Res.ok (t374 % (5 : Int))).bind fun (t376 : Int) => Res.ok (t375 - t376)).bind fun (factor_ : Int) =>   (m_law_k2 script_ group_ point_) factor_)   ((m_law_k2 script_ group_ point_) factor_)
noncomputable def m_law (script_ : (Ro Int)) : Res Bool :=
  (((m_u_law_cell script_ (0 : Int)).bind fun a307 => Res.ok (a307, ())).bind fun p309 => Res.ok (Int.natAbs p309.1 : Int)).bind fun (cell_ : Int) =>   ((((idx ([("w11" : Str), ("w23" : Str), ("w43" : Str), ("w79" : Str), ("w251" : Str), ("w1021" : Str), ("w65521" : Str), ("w31" : Str)] : List Str) ((cell_ / (4 : Int)) % (8 : Int))).bind fun a310 => Res.ok (a310, ())).bind fun p312 => m_group_named p312.1).bind Un.asL).bind fun (group_ : O_Group) =>   ((Res.ok (decide ((cell_ % (8 : Int)) = (3 : Int))))).bind fun b => cond b   (((((idx ([("p256" : Str), ("secp256k1" : Str)] : List Str) ((cell_ / (8 : Int)) % (2 : Int))).bind fun a377 => Res.ok (a377, ())).bind fun p379 => m_group_named p379.1).bind Un.asL).bind fun (group_ : O_Group) =>   (m_law_k1 script_) group_)   ((m_law_k1 script_) group_)
theorem ok_law {P : Program} {w : World} {K : PySem.W.Frag} {mg : Str → Option Value} {base : Heap} (T : Facts P w K mg) {fd : FuncData} (F : FnP K "law" "law" s_law (He.ga K "law") fd) :
    FnOk P w K mg base (L2.CX P w) 8 (He.ga K "law") fd ["script"] (spM K (fun (p : (Ro Int) × Unit) => m_law p.1)) := by
  obtain ⟨fd_Curve_multiply, F_Curve_multiply⟩ := T.d_Curve_multiply
  have G_Curve_multiply := ok_Curve_multiply (P := P) (w := w) (base := base) T F_Curve_multiply
  have b_Curve_multiply : Binds K fd_Curve_multiply ["self", "factor", "point"] [] := F_Curve_multiply.bindsN fun _ _ _ _ _ _ us hl => match us, hl with | [_, _, _], _ => rfl
  obtain ⟨fd_Group_has, F_Group_has⟩ := T.d_Group_has
  have G_Group_has := ok_Group_has (P := P) (w := w) (base := base) T F_Group_has
  have b_Group_has : Binds K fd_Group_has ["self", "point"] [] := F_Group_has.bindsN fun _ _ _ _ _ _ us hl => match us, hl with | [_, _], _ => rfl
  obtain ⟨fd_Group_multiply, F_Group_multiply⟩ := T.d_Group_multiply
  have G_Group_multiply := ok_Group_multiply (P := P) (w := w) (base := base) T F_Group_multiply
  have b_Group_multiply : Binds K fd_Group_multiply ["self", "factor", "point"] [] := F_Group_multiply.bindsN fun _ _ _ _ _ _ us hl => match us, hl with | [_, _, _], _ => rfl
  obtain ⟨fd_Group_negate, F_Group_negate⟩ := T.d_Group_negate
  have G_Group_negate := ok_Group_negate (P := P) (w := w) (base := base) T F_Group_negate
  have b_Group_negate : Binds K fd_Group_negate ["self", "point"] [] := F_Group_negate.bindsN fun _ _ _ _ _ _ us hl => match us, hl with | [_, _], _ => rfl
  obtain ⟨fd_u_law_cell, F_u_law_cell⟩ := T.d_u_law_cell
  have G_u_law_cell := ok_u_law_cell (P := P) (w := w) (base := base) T F_u_law_cell
  have b_u_law_cell : Binds K fd_u_law_cell ["script", "k"] [] := F_u_law_cell.bindsN fun _ _ _ _ _ _ us hl => match us, hl with | [_, _], _ => rfl
  obtain ⟨fd_u_law_number, F_u_law_number⟩ := T.d_u_law_number
  have G_u_law_number := ok_u_law_number (P := P) (w := w) (base := base) T F_u_law_number
  have b_u_law_number : Binds K fd_u_law_number ["cell", "salt"] [] := F_u_law_number.bindsN fun _ _ _ _ _ _ us hl => match us, hl with | [_, _], _ => rfl
  obtain ⟨fd_group_named, F_group_named⟩ := T.d_group_named
  have G_group_named := ok_group_named (P := P) (w := w) (base := base) T F_group_named
  have b_group_named : Binds K fd_group_named ["name"] [] := F_group_named.bindsN fun _ _ _ _ _ _ us hl => match us, hl with | [_], _ => rfl
  obtain ⟨fd_multiply_jacobian, F_multiply_jacobian⟩ := T.d_multiply_jacobian
  have G_multiply_jacobian := ok_multiply_jacobian (P := P) (w := w) (base := base) T F_multiply_jacobian
  have b_multiply_jacobian : Binds K fd_multiply_jacobian ["curve", "factor", "point"] [] := F_multiply_jacobian.bindsN fun _ _ _ _ _ _ us hl => match us, hl with | [_, _, _], _ => rfl
  refine fn_ok F sc_law (fun y => rfl) (fun cdv A outer s H E hr => ?_)
  refine ⟨_, (pss_cons (ps_set (i := 1) sc_law.nd rfl (Or.inl rfl) (pe_callB call_abs (by rfl) T.n_abs (by decide +kernel) (pa_cons (pe_callS G_u_law_cell (hr.mono (by decide)) rfl T.g_u_law_cell F_u_law_cell.kp b_u_law_cell (fun σ => passAt (takes_of rfl rfl rfl rfl) σ) (pa_cons (pv 0) (pa_cons pe_int pa_nil))) pa_nil))) (pss_cons (ps_set (i := 2) sc_law.nd rfl (Or.inl rfl) (pe_callS G_group_named (hr.mono (by decide)) rfl T.g_group_named F_group_named.kp b_group_named (fun σ => passAt (takes_of rfl rfl rfl rfl) σ) (pa_cons (pe_ix (cr_ixL rfl) (pe_lst (pa_cons pe_str (pa_cons pe_str (pa_cons pe_str (pa_cons pe_str (pa_cons pe_str (pa_cons pe_str (pa_cons pe_str (pa_cons pe_str pa_nil))))))))) (pe_op op_mod (pe_op op_fdiv (pv 1) pe_int) pe_int) (fun _ _ => rfl)) pa_nil))) (pss_cons (ps_if (pt_cmpR op_eq (pe_op op_mod (pv 1) pe_int) pe_int (nomark _)) (pss_one (ps_set (i := 2) sc_law.nd rfl (Or.inl rfl) (pe_callS G_group_named (hr.mono (by decide)) rfl T.g_group_named F_group_named.kp b_group_named (fun σ => passAt (takes_of rfl rfl rfl rfl) σ) (pa_cons (pe_ix (cr_ixL rfl) (pe_lst (pa_cons pe_str (pa_cons pe_str pa_nil))) (pe_op op_mod (pe_op op_fdiv (pv 1) pe_int) pe_int) (fun _ _ => rfl)) pa_nil)))) pss_nil) (pss_cons (ps_set (i := 3) sc_law.nd rfl (Or.inl rfl) (pe_op op_mod (pe_callB call_abs (by rfl) T.n_abs (by decide +kernel) (pa_cons (pe_callS G_u_law_number (hr.mono (by decide)) rfl T.g_u_law_number F_u_law_number.kp b_u_law_number (fun σ => passAt (takes_of rfl rfl rfl rfl) σ) (pa_cons (pe_callS G_u_law_cell (hr.mono (by decide)) rfl T.g_u_law_cell F_u_law_cell.kp b_u_law_cell (fun σ => passAt (takes_of rfl rfl rfl rfl) σ) (pa_cons (pv 0) (pa_cons pe_int pa_nil))) (pa_cons pe_int pa_nil))) pa_nil)) (pe_fld (pv 2) rfl))) (pss_cons (ps_set (i := 4) sc_law.nd rfl (Or.inl rfl) (pe_methQ (pv 2) T.cl_Group T.mt_Group_multiply G_Group_multiply (hr.mono (by decide)) b_Group_multiply (fun σ => passAt (takes_of rfl rfl rfl rfl) σ) (pa_cons (pv 3) (pa_cons (pe_fld (pv 2) rfl) pa_nil)))) (pss_cons (ps_set (i := 5) sc_law.nd rfl (Or.inl rfl) (pe_op op_mod (pe_callS G_u_law_number (hr.mono (by decide)) rfl T.g_u_law_number F_u_law_number.kp b_u_law_number (fun σ => passAt (takes_of rfl rfl rfl rfl) σ) (pa_cons (pe_callS G_u_law_cell (hr.mono (by decide)) rfl T.g_u_law_cell F_u_law_cell.kp b_u_law_cell (fun σ => passAt (takes_of rfl rfl rfl rfl) σ) (pa_cons (pv 0) (pa_cons pe_int pa_nil))) (pa_cons pe_int pa_nil))) (pe_op op_mulX (pe_op op_mulX (pe_op op_mulX (pe_op op_pow pe_int pe_int) (pe_op op_pow pe_int pe_int)) (pe_op op_pow pe_int pe_int)) (pe_op op_pow pe_int pe_int)))) (pss_cons (ps_if (pt_cmpR op_eq (pe_op op_mod (pe_callB call_abs (by rfl) T.n_abs (by decide +kernel) (pa_cons (pe_callS G_u_law_cell (hr.mono (by decide)) rfl T.g_u_law_cell F_u_law_cell.kp b_u_law_cell (fun σ => passAt (takes_of rfl rfl rfl rfl) σ) (pa_cons (pv 0) (pa_cons pe_int pa_nil))) pa_nil)) pe_int) pe_int (nomark _)) (pss_one (ps_set (i := 5) sc_law.nd rfl (Or.inl rfl) (pe_op op_sub (pe_op op_add (pe_op op_mulX (pe_fld (pv 2) rfl) (pe_op op_mod (pe_op op_fdiv (pe_callB call_abs (by rfl) T.n_abs (by decide +kernel) (pa_cons (pe_callS G_u_law_cell (hr.mono (by decide)) rfl T.g_u_law_cell F_u_law_cell.kp b_u_law_cell (fun σ => passAt (takes_of rfl rfl rfl rfl) σ) (pa_cons (pv 0) (pa_cons pe_int pa_nil))) pa_nil)) pe_int) pe_int)) pe_int) (pe_op op_mod (pe_op op_fdiv (pe_callB call_abs (by rfl) T.n_abs (by decide +kernel) (pa_cons (pe_callS G_u_law_cell (hr.mono (by decide)) rfl T.g_u_law_cell F_u_law_cell.kp b_u_law_cell (fun σ => passAt (takes_of rfl rfl rfl rfl) σ) (pa_cons (pv 0) (pa_cons pe_int pa_nil))) pa_nil)) pe_int) pe_int)))) pss_nil) (pss_cons (ps_if (pt_cmpR op_eq (pe_op op_mod (pe_callB call_abs (by rfl) T.n_abs (by decide +kernel) (pa_cons (pe_callS G_u_law_cell (hr.mono (by decide)) rfl T.g_u_law_cell F_u_law_cell.kp b_u_law_cell (fun σ => passAt (takes_of rfl rfl rfl rfl) σ) (pa_cons (pv 0) (pa_cons pe_int pa_nil))) pa_nil)) pe_int) pe_int (nomark _)) (pss_one (ps_set (i := 5) sc_law.nd rfl (Or.inl rfl) (pe_un un_neg (pv 5)))) pss_nil) (pss_cons (ps_set (i := 6) sc_law.nd rfl (Or.inl rfl) (pe_methQ (pv 2) T.cl_Group T.mt_Group_multiply G_Group_multiply (hr.mono (by decide)) b_Group_multiply (fun σ => passAt (takes_of rfl rfl rfl rfl) σ) (pa_cons (pv 5) (pa_cons (pv 4) pa_nil)))) (pss_cons (ps_if (PW.pt (pw_or (pt_not (pt_val (pe_methQ (pv 2) T.cl_Group T.mt_Group_has G_Group_has (hr.mono (by decide)) b_Group_has (fun σ => passAt (takes_of rfl rfl rfl rfl) σ) (pa_cons (pv 6) pa_nil)))) (pw_or1 (pt_cmpR (op_neD (Room.units hr)) (pe_callS G_multiply_jacobian (hr.mono (by decide)) rfl T.g_multiply_jacobian F_multiply_jacobian.kp b_multiply_jacobian (fun σ => passAt (takes_of rfl rfl rfl rfl) σ) (pa_cons (pe_fld (pv 2) rfl) (pa_cons (pv 5) (pa_cons (pv 4) pa_nil)))) (pv 6) (nomark _))))) (pss_one (ps_ret pe_bl)) pss_nil) (pss_cons (ps_if (PW.pt (pw_and (pt_cmpR op_eq (pe_op op_mod (pe_callB call_abs (by rfl) T.n_abs (by decide +kernel) (pa_cons (pe_callS G_u_law_cell (hr.mono (by decide)) rfl T.g_u_law_cell F_u_law_cell.kp b_u_law_cell (fun σ => passAt (takes_of rfl rfl rfl rfl) σ) (pa_cons (pv 0) (pa_cons pe_int pa_nil))) pa_nil)) pe_int) pe_int (nomark _)) (pw_and1 (pt_cmpR (op_neD (Room.units hr)) (pe_methQ (pe_fld (pv 2) rfl) T.cl_Curve T.mt_Curve_multiply G_Curve_multiply (hr.mono (by decide)) b_Curve_multiply (fun σ => passAt (takes_of rfl rfl rfl rfl) σ) (pa_cons (pv 5) (pa_cons (pv 4) pa_nil))) (pv 6) (nomark _))))) (pss_one (ps_ret pe_bl)) pss_nil) (pss_cons (ps_if (PW.pt (pw_or (pt_cmpR op_notN (pe_methQ (pv 2) T.cl_Group T.mt_Group_multiply G_Group_multiply (hr.mono (by decide)) b_Group_multiply (fun σ => passAt (takes_of rfl rfl rfl rfl) σ) (pa_cons (pe_fld (pv 2) rfl) (pa_cons (pv 4) pa_nil))) pe_non (nomark _)) (pw_or1 (pt_cmpR (op_neD (Room.units hr)) (pe_methQ (pv 2) T.cl_Group T.mt_Group_multiply G_Group_multiply (hr.mono (by decide)) b_Group_multiply (fun σ => passAt (takes_of rfl rfl rfl rfl) σ) (pa_cons (pe_op op_mod (pv 5) (pe_fld (pv 2) rfl)) (pa_cons (pv 4) pa_nil))) (pv 6) (nomark _))))) (pss_one (ps_ret pe_bl)) pss_nil) (pss_one (ps_ret (pe_cmpR (op_eqD (Room.units hr)) (pe_methQ (pv 2) T.cl_Group T.mt_Group_multiply G_Group_multiply (hr.mono (by decide)) b_Group_multiply (fun σ => passAt (takes_of rfl rfl rfl rfl) σ) (pa_cons (pe_op op_sub (pe_fld (pv 2) rfl) (pv 5)) (pa_cons (pv 4) pa_nil))) (pe_methQ (pv 2) T.cl_Group T.mt_Group_negate G_Group_negate (hr.mono (by decide)) b_Group_negate (fun σ => passAt (takes_of rfl rfl rfl rfl) σ) (pa_cons (pv 6) pa_nil)) (nomark _)))))))))))))))), ?_⟩
  rintro ⟨script_, ⟨⟩⟩ F0 H0 Q KP L
  show Blk K F0 H0 KP _ [some (.im (toD script_)), none, none, none, none, none, none] (m_law script_)
  unfold m_law
  have hs_ := ((ev_cb cx_abs (fun _ _ h => nomatch h) (ea_cons (ev_call (f := (fun (p : (Ro Int) × Int × Unit) => m_u_law_cell p.1 p.2.1)) (ea_cons (ev_var (i := 0) (x := script_) rfl) (ea_cons (ev_int (i := 0)) ea_nil))) ea_nil)) : EvX K (W0 E) [some (.im (toD script_)), none, none, none, none, none, none] _ _); replace hs_ : EvX K (W0 E) [some (.im (toD script_)), none, none, none, none, none, none] _ (((m_u_law_cell script_ (0 : Int)).bind fun a307 => Res.ok (a307, ())).bind fun p309 => Res.ok (Int.natAbs p309.1 : Int)) := hs_
  refine blk_seq (blk_set (i := 1) L trivial hs_ fun cell_ => ?_)
  show Blk _ _ _ _ _ [some (.im (toD script_)), some (.im (toD cell_)), none, none, none, none, none] _
  try refine Blk.nx ?_
  have hs_ := ((ev_castG (f := Un.asL) asL_ok asL_x (ev_call (f := (fun (p : Str × Unit) => m_group_named p.1)) (ea_cons (ev_op opx_ixL (fun x y => idx_mild x y) (ev_ofN (en_lst (f := (fun y => ([y.1, y.2.1, y.2.2.1, y.2.2.2.1, y.2.2.2.2.1, y.2.2.2.2.2.1, y.2.2.2.2.2.2.1, y.2.2.2.2.2.2.2.1] : List Str))) (ea_cons (ev_str (x := "w11")) (ea_cons (ev_str (x := "w23")) (ea_cons (ev_str (x := "w43")) (ea_cons (ev_str (x := "w79")) (ea_cons (ev_str (x := "w251")) (ea_cons (ev_str (x := "w1021")) (ea_cons (ev_str (x := "w65521")) (ea_cons (ev_str (x := "w31")) ea_nil)))))))) (fun _ => rfl) (fun _ => by show 8 ≤ 100000; decide))) (ev_opI (C := (fun _ j => 0 < j)) (g := fun i j => i % j) (fun x y _ h => by cases h; (show (0 : Int) < _; decide)) (ev_opI (C := CDiv) (g := fun i j => i / j) (fun x y _ h => by cases h; exact ⟨by decide, by decide⟩) (ev_var (i := 1) (x := cell_) rfl) (ev_int (i := 4))) (ev_int (i := 8)))) ea_nil))) : EvX K (W0 E) [some (.im (toD script_)), some (.im (toD cell_)), none, none, none, none, none] _ _); replace hs_ : EvX K (W0 E) [some (.im (toD script_)), some (.im (toD cell_)), none, none, none, none, none] _ ((((idx ([("w11" : Str), ("w23" : Str), ("w43" : Str), ("w79" : Str), ("w251" : Str), ("w1021" : Str), ("w65521" : Str), ("w31" : Str)] : List Str) ((cell_ / (4 : Int)) % (8 : Int))).bind fun a310 => Res.ok (a310, ())).bind fun p312 => m_group_named p312.1).bind Un.asL) := hs_
  refine blk_seq (blk_set (i := 2) L trivial hs_ fun group_ => ?_)
  show Blk _ _ _ _ _ [some (.im (toD script_)), some (.im (toD cell_)), some (.im (toD group_)), none, none, none, none] _
  try refine Blk.nx ?_
  have ht_ := ((et_test (ev_op opx_eqI mild_ok (ev_opI (C := (fun _ j => 0 < j)) (g := fun i j => i % j) (fun x y _ h => by cases h; (show (0 : Int) < _; decide)) (ev_var (i := 1) (x := cell_) rfl) (ev_int (i := 8))) (ev_int (i := 3)))) : EvT K (W0 E) [some (.im (toD script_)), some (.im (toD cell_)), some (.im (toD group_)), none, none, none, none] _ _); replace ht_ : EvT K (W0 E) [some (.im (toD script_)), some (.im (toD cell_)), some (.im (toD group_)), none, none, none, none] _ ((Res.ok (decide ((cell_ % (8 : Int)) = (3 : Int))))) := ht_
  refine blk_seq (blk_ifj (S := O_Group) (fun group_ => [some (.im (toD script_)), some (.im (toD cell_)), some (.im (toD group_)), none, none, none, none]) (m_law_k1 script_) L trivial ht_ ?_ ?_ ?_)
  · intro group_
    show Blk _ _ _ _ _ [some (.im (toD script_)), some (.im (toD cell_)), some (.im (toD group_)), none, none, none, none] ((m_law_k1 script_) group_)
    unfold m_law_k1
    try refine Blk.nx ?_
    have hs_ := ((ev_op (opx_I (C := (fun _ j => 0 < j)) (g := fun i j => i % j)) mild_need (ev_cb cx_abs (fun _ _ h => nomatch h) (ea_cons (ev_call (f := (fun (p : Int × Int × Unit) => m_u_law_number p.1 p.2.1)) (ea_cons (ev_call (f := (fun (p : (Ro Int) × Int × Unit) => m_u_law_cell p.1 p.2.1)) (ea_cons (ev_var (i := 0) (x := script_) rfl) (ea_cons (ev_int (i := 1)) ea_nil))) (ea_cons (ev_int (i := 1)) ea_nil))) ea_nil)) (ev_fld (g := fun (x : O_Group) => x.f_order) (c := "Group") (ks := ["name", "kind", "curve", "prime", "base", "order", "cofactor", "size", "order_size"]) (j := 5) (ev_var (i := 2) (x := group_) rfl) T.cl_Group T.nf_Group_order (by decide +kernel) (fun _ => ⟨_, rfl, rfl⟩))) : EvX K (W0 E) [some (.im (toD script_)), some (.im (toD cell_)), some (.im (toD group_)), none, none, none, none] _ _); replace hs_ : EvX K (W0 E) [some (.im (toD script_)), some (.im (toD cell_)), some (.im (toD group_)), none, none, none, none] _ ((((((m_u_law_cell script_ (1 : Int)).bind fun a313 => Res.ok (a313, ((1 : Int), ()))).bind fun p315 => m_u_law_number p315.1 p315.2.1).bind fun a316 => Res.ok (a316, ())).bind fun p318 => Res.ok (Int.natAbs p318.1 : Int)).bind fun (t319 : Int) => Res.need (0 < group_.f_order) (Res.ok (t319 % group_.f_order))) := hs_
    refine blk_seq (blk_set (i := 3) L trivial hs_ fun start_ => ?_)
    show Blk _ _ _ _ _ [some (.im (toD script_)), some (.im (toD cell_)), some (.im (toD group_)), some (.im (toD start_)), none, none, none] _
    try refine Blk.nx ?_
    have hs_ := ((ev_meth (c := "Group") (m := "multiply") (ks := ["name", "kind", "curve", "prime", "base", "order", "cofactor", "size", "order_size"]) (f := (fun (p : O_Group × Int × (Option (T2 Int Int)) × Unit) => m_Group_multiply p.1 p.2.1 p.2.2.1)) (ev_var (i := 2) (x := group_) rfl) (ea_cons (ev_var (i := 3) (x := start_) rfl) (ea_cons (ev_as (ev_fld (g := fun (x : O_Group) => x.f_base) (c := "Group") (ks := ["name", "kind", "curve", "prime", "base", "order", "cofactor", "size", "order_size"]) (j := 4) (ev_var (i := 2) (x := group_) rfl) T.cl_Group T.nf_Group_base (by decide +kernel) (fun _ => ⟨_, rfl, rfl⟩)) some (fun _ => rfl) rfl) ea_nil)) (by decide +kernel) (fun _ => ⟨_, rfl⟩)) : EvX K (W0 E) [some (.im (toD script_)), some (.im (toD cell_)), some (.im (toD group_)), some (.im (toD start_)), none, none, none] _ _); replace hs_ : EvX K (W0 E) [some (.im (toD script_)), some (.im (toD cell_)), some (.im (toD group_)), some (.im (toD start_)), none, none, none] _ (m_Group_multiply group_ start_ (some group_.f_base)) := hs_
    refine blk_seq (blk_set (i := 4) L trivial hs_ fun point_ => ?_)
    show Blk _ _ _ _ _ [some (.im (toD script_)), some (.im (toD cell_)), some (.im (toD group_)), some (.im (toD start_)), some (.im (toD point_)), none, none] _
    try refine Blk.nx ?_
    have hs_ := ((ev_op (opx_I (C := (fun _ j => 0 < j)) (g := fun i j => i % j)) mild_need (ev_call (f := (fun (p : Int × Int × Unit) => m_u_law_number p.1 p.2.1)) (ea_cons (ev_call (f := (fun (p : (Ro Int) × Int × Unit) => m_u_law_cell p.1 p.2.1)) (ea_cons (ev_var (i := 0) (x := script_) rfl) (ea_cons (ev_int (i := 2)) ea_nil))) (ea_cons (ev_int (i := 2)) ea_nil))) (ev_op (opx_I (C := CMulX) (g := fun i j => i * j)) mild_need (ev_op (opx_I (C := CMulX) (g := fun i j => i * j)) mild_need (ev_op (opx_I (C := CMulX) (g := fun i j => i * j)) mild_need (ev_opI (C := CPow) (g := fun i j => i ^ j.toNat) (fun x y h1 h2 => by cases h1; cases h2; exact ⟨by decide, by decide, by decide⟩) (ev_int (i := 2)) (ev_int (i := 64))) (ev_opI (C := CPow) (g := fun i j => i ^ j.toNat) (fun x y h1 h2 => by cases h1; cases h2; exact ⟨by decide, by decide, by decide⟩) (ev_int (i := 2)) (ev_int (i := 64)))) (ev_opI (C := CPow) (g := fun i j => i ^ j.toNat) (fun x y h1 h2 => by cases h1; cases h2; exact ⟨by decide, by decide, by decide⟩) (ev_int (i := 2)) (ev_int (i := 64)))) (ev_opI (C := CPow) (g := fun i j => i ^ j.toNat) (fun x y h1 h2 => by cases h1; cases h2; exact ⟨by decide, by decide, by decide⟩) (ev_int (i := 2)) (ev_int (i := 64))))) : EvX K (W0 E) [some (.im (toD script_)), some (.im (toD cell_)), some (.im (toD group_)), some (.im (toD start_)), some (.im (toD point_)), none, none] _ _); replace hs_ : EvX K (W0 E) [some (.im (toD script_)), some (.im (toD cell_)), some (.im (toD group_)), some (.im (toD start_)), some (.im (toD point_)), none, none] _ ((((m_u_law_cell script_ (2 : Int)).bind fun a321 => Res.ok (a321, ((2 : Int), ()))).bind fun p323 => m_u_law_number p323.1 p323.2.1).bind fun (t326 : Int) => (((Res.need (CMulX ((2 : Int) ^ (64 : Int).toNat) ((2 : Int) ^ (64 : Int).toNat)) (Res.ok (((2 : Int) ^ (64 : Int).toNat) * ((2 : Int) ^ (64 : Int).toNat)))).bind fun (t324 : Int) => Res.need (CMulX t324 ((2 : Int) ^ (64 : Int).toNat)) (Res.ok (t324 * ((2 : Int) ^ (64 : Int).toNat)))).bind fun (t325 : Int) => Res.need (CMulX t325 ((2 : Int) ^ (64 : Int).toNat)) (Res.ok (t325 * ((2 : Int) ^ (64 : Int).toNat)))).bind fun (t327 : Int) => Res.need (0 < t327) (Res.ok (t326 % t327))) := hs_
    refine blk_seq (blk_set (i := 5) L trivial hs_ fun factor_ => ?_)
    show Blk _ _ _ _ _ [some (.im (toD script_)), some (.im (toD cell_)), some (.im (toD group_)), some (.im (toD start_)), some (.im (toD point_)), some (.im (toD factor_)), none] _
    try refine Blk.nx ?_
    have ht_ := ((et_test (ev_op opx_eqI mild_ok (ev_opI (C := (fun _ j => 0 < j)) (g := fun i j => i % j) (fun x y _ h => by cases h; (show (0 : Int) < _; decide)) (ev_cb cx_abs (fun _ _ h => nomatch h) (ea_cons (ev_call (f := (fun (p : (Ro Int) × Int × Unit) => m_u_law_cell p.1 p.2.1)) (ea_cons (ev_var (i := 0) (x := script_) rfl) (ea_cons (ev_int (i := 3)) ea_nil))) ea_nil)) (ev_int (i := 3))) (ev_int (i := 1)))) : EvT K (W0 E) [some (.im (toD script_)), some (.im (toD cell_)), some (.im (toD group_)), some (.im (toD start_)), some (.im (toD point_)), some (.im (toD factor_)), none] _ _); replace ht_ : EvT K (W0 E) [some (.im (toD script_)), some (.im (toD cell_)), some (.im (toD group_)), some (.im (toD start_)), some (.im (toD point_)), some (.im (toD factor_)), none] _ (((((m_u_law_cell script_ (3 : Int)).bind fun a328 => Res.ok (a328, ())).bind fun p330 => Res.ok (Int.natAbs p330.1 : Int)).bind fun (t331 : Int) => Res.ok (t331 % (3 : Int))).bind fun (t332 : Int) => Res.ok (decide (t332 = (1 : Int)))) := ht_
    refine blk_seq (blk_ifj (S := Int) (fun factor_ => [some (.im (toD script_)), some (.im (toD cell_)), some (.im (toD group_)), some (.im (toD start_)), some (.im (toD point_)), some (.im (toD factor_)), none]) (m_law_k2 script_ group_ point_) L trivial ht_ ?_ ?_ ?_)
    · intro factor_
      show Blk _ _ _ _ _ [some (.im (toD script_)), some (.im (toD cell_)), some (.im (toD group_)), some (.im (toD start_)), some (.im (toD point_)), some (.im (toD factor_)), none] ((m_law_k2 script_ group_ point_) factor_)
      unfold m_law_k2
      try refine Blk.nx ?_
      have ht_ := ((et_test (ev_op opx_eqI mild_ok (ev_opI (C := (fun _ j => 0 < j)) (g := fun i j => i % j) (fun x y _ h => by cases h; (show (0 : Int) < _; decide)) (ev_cb cx_abs (fun _ _ h => nomatch h) (ea_cons (ev_call (f := (fun (p : (Ro Int) × Int × Unit) => m_u_law_cell p.1 p.2.1)) (ea_cons (ev_var (i := 0) (x := script_) rfl) (ea_cons (ev_int (i := 3)) ea_nil))) ea_nil)) (ev_int (i := 3))) (ev_int (i := 2)))) : EvT K (W0 E) [some (.im (toD script_)), some (.im (toD cell_)), some (.im (toD group_)), some (.im (toD start_)), some (.im (toD point_)), some (.im (toD factor_)), none] _ _); replace ht_ : EvT K (W0 E) [some (.im (toD script_)), some (.im (toD cell_)), some (.im (toD group_)), some (.im (toD start_)), some (.im (toD point_)), some (.im (toD factor_)), none] _ (((((m_u_law_cell script_ (3 : Int)).bind fun a333 => Res.ok (a333, ())).bind fun p335 => Res.ok (Int.natAbs p335.1 : Int)).bind fun (t336 : Int) => Res.ok (t336 % (3 : Int))).bind fun (t337 : Int) => Res.ok (decide (t337 = (2 : Int)))) := ht_
      refine blk_seq (blk_ifj (S := Int) (fun factor_ => [some (.im (toD script_)), some (.im (toD cell_)), some (.im (toD group_)), some (.im (toD start_)), some (.im (toD point_)), some (.im (toD factor_)), none]) (m_law_k3 script_ group_ point_) L trivial ht_ ?_ ?_ ?_)
      · intro factor_
        show Blk _ _ _ _ _ [some (.im (toD script_)), some (.im (toD cell_)), some (.im (toD group_)), some (.im (toD start_)), some (.im (toD point_)), some (.im (toD factor_)), none] ((m_law_k3 script_ group_ point_) factor_)
        unfold m_law_k3
        try refine Blk.nx ?_
        have hs_ := ((ev_meth (c := "Group") (m := "multiply") (ks := ["name", "kind", "curve", "prime", "base", "order", "cofactor", "size", "order_size"]) (f := (fun (p : O_Group × Int × (Option (T2 Int Int)) × Unit) => m_Group_multiply p.1 p.2.1 p.2.2.1)) (ev_var (i := 2) (x := group_) rfl) (ea_cons (ev_var (i := 5) (x := factor_) rfl) (ea_cons (ev_var (i := 4) (x := point_) rfl) ea_nil)) (by decide +kernel) (fun _ => ⟨_, rfl⟩)) : EvX K (W0 E) [some (.im (toD script_)), some (.im (toD cell_)), some (.im (toD group_)), some (.im (toD start_)), some (.im (toD point_)), some (.im (toD factor_)), none] _ _); replace hs_ : EvX K (W0 E) [some (.im (toD script_)), some (.im (toD cell_)), some (.im (toD group_)), some (.im (toD start_)), some (.im (toD point_)), some (.im (toD factor_)), none] _ (m_Group_multiply group_ factor_ point_) := hs_
        refine blk_seq (blk_set (i := 6) L trivial hs_ fun one_ => ?_)
        show Blk _ _ _ _ _ [some (.im (toD script_)), some (.im (toD cell_)), some (.im (toD group_)), some (.im (toD start_)), some (.im (toD point_)), some (.im (toD factor_)), some (.im (toD one_))] _
        try refine Blk.nx ?_
        have ht_ := ((et_or (et_not (et_B (ev_meth (c := "Group") (m := "has") (ks := ["name", "kind", "curve", "prime", "base", "order", "cofactor", "size", "order_size"]) (f := (fun (p : O_Group × D × Unit) => m_Group_has p.1 p.2.1)) (ev_var (i := 2) (x := group_) rfl) (ea_cons (ev_as (ev_var (i := 6) (x := one_) rfl) toD (fun _ => rfl) rfl) ea_nil) (by decide +kernel) (fun _ => ⟨_, rfl⟩)))) (et_test (ev_op opx_neD mild_need (ev_call (f := (fun (p : O_Curve × Int × (Option (T2 Int Int)) × Unit) => m_multiply_jacobian p.1 p.2.1 p.2.2.1)) (ea_cons (ev_fld (g := fun (x : O_Group) => x.f_curve) (c := "Group") (ks := ["name", "kind", "curve", "prime", "base", "order", "cofactor", "size", "order_size"]) (j := 2) (ev_var (i := 2) (x := group_) rfl) T.cl_Group T.nf_Group_curve (by decide +kernel) (fun _ => ⟨_, rfl, rfl⟩)) (ea_cons (ev_var (i := 5) (x := factor_) rfl) (ea_cons (ev_var (i := 4) (x := point_) rfl) ea_nil)))) (ev_var (i := 6) (x := one_) rfl)))) : EvT K (W0 E) [some (.im (toD script_)), some (.im (toD cell_)), some (.im (toD group_)), some (.im (toD start_)), some (.im (toD point_)), some (.im (toD factor_)), some (.im (toD one_))] _ _); replace ht_ : EvT K (W0 E) [some (.im (toD script_)), some (.im (toD cell_)), some (.im (toD group_)), some (.im (toD start_)), some (.im (toD point_)), some (.im (toD factor_)), some (.im (toD one_))] _ (((m_Group_has group_ (toD one_)).bind fun (t340 : Bool) => Res.ok (!t340)).bind fun b342 => cond b342 (Res.ok true) ((m_multiply_jacobian group_.f_curve factor_ point_).bind fun (t341 : (Option (T2 Int Int))) => Res.need ((toD t341).okq = true ∧ (toD one_).okq = true) (Res.ok (!pyEq (toD t341) (toD one_))))) := ht_
        refine blk_seq (blk_if2 L trivial ht_ ?_ ?_)
        · have hr_ := ((ev_bl (b := false)) : EvX K (W0 E) [some (.im (toD script_)), some (.im (toD cell_)), some (.im (toD group_)), some (.im (toD start_)), some (.im (toD point_)), some (.im (toD factor_)), some (.im (toD one_))] _ _); replace hr_ : EvX K (W0 E) [some (.im (toD script_)), some (.im (toD cell_)), some (.im (toD group_)), some (.im (toD start_)), some (.im (toD point_)), some (.im (toD factor_)), some (.im (toD one_))] _ (Res.ok false : Res Bool) := hr_
          exact blk_ret L trivial hr_
        · refine blk_nil ?_
          try refine Blk.nx ?_
          have ht_ := ((et_and (et_test (ev_op opx_eqI mild_ok (ev_opI (C := (fun _ j => 0 < j)) (g := fun i j => i % j) (fun x y _ h => by cases h; (show (0 : Int) < _; decide)) (ev_cb cx_abs (fun _ _ h => nomatch h) (ea_cons (ev_call (f := (fun (p : (Ro Int) × Int × Unit) => m_u_law_cell p.1 p.2.1)) (ea_cons (ev_var (i := 0) (x := script_) rfl) (ea_cons (ev_int (i := 4)) ea_nil))) ea_nil)) (ev_int (i := 3))) (ev_int (i := 0)))) (et_test (ev_op opx_neD mild_need (ev_meth (c := "Curve") (m := "multiply") (ks := ["prime", "a", "b"]) (f := (fun (p : O_Curve × Int × (Option (T2 Int Int)) × Unit) => m_Curve_multiply p.1 p.2.1 p.2.2.1)) (ev_fld (g := fun (x : O_Group) => x.f_curve) (c := "Group") (ks := ["name", "kind", "curve", "prime", "base", "order", "cofactor", "size", "order_size"]) (j := 2) (ev_var (i := 2) (x := group_) rfl) T.cl_Group T.nf_Group_curve (by decide +kernel) (fun _ => ⟨_, rfl, rfl⟩)) (ea_cons (ev_var (i := 5) (x := factor_) rfl) (ea_cons (ev_var (i := 4) (x := point_) rfl) ea_nil)) (by decide +kernel) (fun _ => ⟨_, rfl⟩)) (ev_var (i := 6) (x := one_) rfl)))) : EvT K (W0 E) [some (.im (toD script_)), some (.im (toD cell_)), some (.im (toD group_)), some (.im (toD start_)), some (.im (toD point_)), some (.im (toD factor_)), some (.im (toD one_))] _ _); replace ht_ : EvT K (W0 E) [some (.im (toD script_)), some (.im (toD cell_)), some (.im (toD group_)), some (.im (toD start_)), some (.im (toD point_)), some (.im (toD factor_)), some (.im (toD one_))] _ ((((((m_u_law_cell script_ (4 : Int)).bind fun a343 => Res.ok (a343, ())).bind fun p345 => Res.ok (Int.natAbs p345.1 : Int)).bind fun (t346 : Int) => Res.ok (t346 % (3 : Int))).bind fun (t347 : Int) => Res.ok (decide (t347 = (0 : Int)))).bind fun b350 => cond b350 ((m_Curve_multiply group_.f_curve factor_ point_).bind fun (t349 : (Option (T2 Int Int))) => Res.need ((toD t349).okq = true ∧ (toD one_).okq = true) (Res.ok (!pyEq (toD t349) (toD one_)))) (Res.ok false)) := ht_
          refine blk_seq (blk_if2 L trivial ht_ ?_ ?_)
          · have hr_ := ((ev_bl (b := false)) : EvX K (W0 E) [some (.im (toD script_)), some (.im (toD cell_)), some (.im (toD group_)), some (.im (toD start_)), some (.im (toD point_)), some (.im (toD factor_)), some (.im (toD one_))] _ _); replace hr_ : EvX K (W0 E) [some (.im (toD script_)), some (.im (toD cell_)), some (.im (toD group_)), some (.im (toD start_)), some (.im (toD point_)), some (.im (toD factor_)), some (.im (toD one_))] _ (Res.ok false : Res Bool) := hr_
            exact blk_ret L trivial hr_
          · refine blk_nil ?_
            try refine Blk.nx ?_
            have ht_ := ((et_or (et_test (ev_op opx_notN mild_ok (ev_meth (c := "Group") (m := "multiply") (ks := ["name", "kind", "curve", "prime", "base", "order", "cofactor", "size", "order_size"]) (f := (fun (p : O_Group × Int × (Option (T2 Int Int)) × Unit) => m_Group_multiply p.1 p.2.1 p.2.2.1)) (ev_var (i := 2) (x := group_) rfl) (ea_cons (ev_fld (g := fun (x : O_Group) => x.f_order) (c := "Group") (ks := ["name", "kind", "curve", "prime", "base", "order", "cofactor", "size", "order_size"]) (j := 5) (ev_var (i := 2) (x := group_) rfl) T.cl_Group T.nf_Group_order (by decide +kernel) (fun _ => ⟨_, rfl, rfl⟩)) (ea_cons (ev_var (i := 4) (x := point_) rfl) ea_nil)) (by decide +kernel) (fun _ => ⟨_, rfl⟩)) ev_non)) (et_test (ev_op opx_neD mild_need (ev_meth (c := "Group") (m := "multiply") (ks := ["name", "kind", "curve", "prime", "base", "order", "cofactor", "size", "order_size"]) (f := (fun (p : O_Group × Int × (Option (T2 Int Int)) × Unit) => m_Group_multiply p.1 p.2.1 p.2.2.1)) (ev_var (i := 2) (x := group_) rfl) (ea_cons (ev_op (opx_I (C := (fun _ j => 0 < j)) (g := fun i j => i % j)) mild_need (ev_var (i := 5) (x := factor_) rfl) (ev_fld (g := fun (x : O_Group) => x.f_order) (c := "Group") (ks := ["name", "kind", "curve", "prime", "base", "order", "cofactor", "size", "order_size"]) (j := 5) (ev_var (i := 2) (x := group_) rfl) T.cl_Group T.nf_Group_order (by decide +kernel) (fun _ => ⟨_, rfl, rfl⟩))) (ea_cons (ev_var (i := 4) (x := point_) rfl) ea_nil)) (by decide +kernel) (fun _ => ⟨_, rfl⟩)) (ev_var (i := 6) (x := one_) rfl)))) : EvT K (W0 E) [some (.im (toD script_)), some (.im (toD cell_)), some (.im (toD group_)), some (.im (toD start_)), some (.im (toD point_)), some (.im (toD factor_)), some (.im (toD one_))] _ _); replace ht_ : EvT K (W0 E) [some (.im (toD script_)), some (.im (toD cell_)), some (.im (toD group_)), some (.im (toD start_)), some (.im (toD point_)), some (.im (toD factor_)), some (.im (toD one_))] _ (((m_Group_multiply group_ group_.f_order point_).bind fun (t352 : (Option (T2 Int Int))) => Res.ok (!(toD t352).isNon)).bind fun b358 => cond b358 (Res.ok true) ((((Res.need (0 < group_.f_order) (Res.ok (factor_ % group_.f_order))).bind fun a354 => Res.ok (a354, (point_, ()))).bind fun p356 => m_Group_multiply group_ p356.1 p356.2.1).bind fun (t357 : (Option (T2 Int Int))) => Res.need ((toD t357).okq = true ∧ (toD one_).okq = true) (Res.ok (!pyEq (toD t357) (toD one_))))) := ht_
            refine blk_seq (blk_if2 L trivial ht_ ?_ ?_)
            · have hr_ := ((ev_bl (b := false)) : EvX K (W0 E) [some (.im (toD script_)), some (.im (toD cell_)), some (.im (toD group_)), some (.im (toD start_)), some (.im (toD point_)), some (.im (toD factor_)), some (.im (toD one_))] _ _); replace hr_ : EvX K (W0 E) [some (.im (toD script_)), some (.im (toD cell_)), some (.im (toD group_)), some (.im (toD start_)), some (.im (toD point_)), some (.im (toD factor_)), some (.im (toD one_))] _ (Res.ok false : Res Bool) := hr_
              exact blk_ret L trivial hr_
            · refine blk_nil ?_
              try refine Blk.nx ?_
              have hr_ := ((ev_op opx_eqD mild_need (ev_meth (c := "Group") (m := "multiply") (ks := ["name", "kind", "curve", "prime", "base", "order", "cofactor", "size", "order_size"]) (f := (fun (p : O_Group × Int × (Option (T2 Int Int)) × Unit) => m_Group_multiply p.1 p.2.1 p.2.2.1)) (ev_var (i := 2) (x := group_) rfl) (ea_cons (ev_op (opx_I0 (g := fun i j => i - j)) mild_ok (ev_fld (g := fun (x : O_Group) => x.f_order) (c := "Group") (ks := ["name", "kind", "curve", "prime", "base", "order", "cofactor", "size", "order_size"]) (j := 5) (ev_var (i := 2) (x := group_) rfl) T.cl_Group T.nf_Group_order (by decide +kernel) (fun _ => ⟨_, rfl, rfl⟩)) (ev_var (i := 5) (x := factor_) rfl)) (ea_cons (ev_var (i := 4) (x := point_) rfl) ea_nil)) (by decide +kernel) (fun _ => ⟨_, rfl⟩)) (ev_meth (c := "Group") (m := "negate") (ks := ["name", "kind", "curve", "prime", "base", "order", "cofactor", "size", "order_size"]) (f := (fun (p : O_Group × (Option (T2 Int Int)) × Unit) => m_Group_negate p.1 p.2.1)) (ev_var (i := 2) (x := group_) rfl) (ea_cons (ev_var (i := 6) (x := one_) rfl) ea_nil) (by decide +kernel) (fun _ => ⟨_, rfl⟩))) : EvX K (W0 E) [some (.im (toD script_)), some (.im (toD cell_)), some (.im (toD group_)), some (.im (toD start_)), some (.im (toD point_)), some (.im (toD factor_)), some (.im (toD one_))] _ _); replace hr_ : EvX K (W0 E) [some (.im (toD script_)), some (.im (toD cell_)), some (.im (toD group_)), some (.im (toD start_)), some (.im (toD point_)), some (.im (toD factor_)), some (.im (toD one_))] _ ((m_Group_multiply group_ (group_.f_order - factor_) point_).bind fun (t361 : (Option (T2 Int Int))) => (m_Group_negate group_ one_).bind fun (t362 : (Option (T2 Int Int))) => Res.need ((toD t361).okq = true ∧ (toD t362).okq = true) (Res.ok (pyEq (toD t361) (toD t362)))) := hr_
              exact blk_ret L trivial hr_
      · intro hk3
        have hs_ := ((ev_un (g := fun i => -i) (ev_var (i := 5) (x := factor_) rfl)) : EvX K (W0 E) [some (.im (toD script_)), some (.im (toD cell_)), some (.im (toD group_)), some (.im (toD start_)), some (.im (toD point_)), some (.im (toD factor_)), none] _ _); replace hs_ : EvX K (W0 E) [some (.im (toD script_)), some (.im (toD cell_)), some (.im (toD group_)), some (.im (toD start_)), some (.im (toD point_)), some (.im (toD factor_)), none] _ (Res.ok (-factor_) : Res Int) := hs_
        refine blk_set (i := 5) L trivial hs_ fun factor_ => ?_
        show Blk _ _ _ _ _ [some (.im (toD script_)), some (.im (toD cell_)), some (.im (toD group_)), some (.im (toD start_)), some (.im (toD point_)), some (.im (toD factor_)), none] _
        try refine Blk.nx ?_
        exact (hk3 factor_).weak (.same (.same (.same (.same (.same (.same (.same .nil)))))))
      · intro hk3
        refine blk_nil ?_
        try refine Blk.nx ?_
        exact (hk3 factor_).weak (.same (.same (.same (.same (.same (.same (.same .nil)))))))
    · intro hk2
      have hs_ := ((ev_op (opx_I0 (g := fun i j => i - j)) mild_ok (ev_op (opx_I0 (g := fun i j => i + j)) mild_ok (ev_op (opx_I (C := CMulX) (g := fun i j => i * j)) mild_need (ev_fld (g := fun (x : O_Group) => x.f_order) (c := "Group") (ks := ["name", "kind", "curve", "prime", "base", "order", "cofactor", "size", "order_size"]) (j := 5) (ev_var (i := 2) (x := group_) rfl) T.cl_Group T.nf_Group_order (by decide +kernel) (fun _ => ⟨_, rfl, rfl⟩)) (ev_opI (C := (fun _ j => 0 < j)) (g := fun i j => i % j) (fun x y _ h => by cases h; (show (0 : Int) < _; decide)) (ev_opI (C := CDiv) (g := fun i j => i / j) (fun x y _ h => by cases h; exact ⟨by decide, by decide⟩) (ev_cb cx_abs (fun _ _ h => nomatch h) (ea_cons (ev_call (f := (fun (p : (Ro Int) × Int × Unit) => m_u_law_cell p.1 p.2.1)) (ea_cons (ev_var (i := 0) (x := script_) rfl) (ea_cons (ev_int (i := 3)) ea_nil))) ea_nil)) (ev_int (i := 3))) (ev_int (i := 3)))) (ev_int (i := 2))) (ev_opI (C := (fun _ j => 0 < j)) (g := fun i j => i % j) (fun x y _ h => by cases h; (show (0 : Int) < _; decide)) (ev_opI (C := CDiv) (g := fun i j => i / j) (fun x y _ h => by cases h; exact ⟨by decide, by decide⟩) (ev_cb cx_abs (fun _ _ h => nomatch h) (ea_cons (ev_call (f := (fun (p : (Ro Int) × Int × Unit) => m_u_law_cell p.1 p.2.1)) (ea_cons (ev_var (i := 0) (x := script_) rfl) (ea_cons (ev_int (i := 3)) ea_nil))) ea_nil)) (ev_int (i := 9))) (ev_int (i := 5)))) : EvX K (W0 E) [some (.im (toD script_)), some (.im (toD cell_)), some (.im (toD group_)), some (.im (toD start_)), some (.im (toD point_)), some (.im (toD factor_)), none] _ _); replace hs_ : EvX K (W0 E) [some (.im (toD script_)), some (.im (toD cell_)), some (.im (toD group_)), some (.im (toD start_)), some (.im (toD point_)), some (.im (toD factor_)), none] _ ((((((((m_u_law_cell script_ (3 : Int)).bind fun a363 => Res.ok (a363, ())).bind fun p365 => Res.ok (Int.natAbs p365.1 : Int)).bind fun (t366 : Int) => Res.ok (t366 / (3 : Int))).bind fun (t367 : Int) => Res.ok (t367 % (3 : Int))).bind fun (t368 : Int) => Res.need (CMulX group_.f_order t368) (Res.ok (group_.f_order * t368))).bind fun (t369 : Int) => Res.ok (t369 + (2 : Int))).bind fun (t375 : Int) => (((((m_u_law_cell script_ (3 : Int)).bind fun a370 => Res.ok (a370, ())).bind fun p372 => Res.ok (Int.natAbs p372.1 : Int)).bind fun (t373 : Int) => Res.ok (t373 / (9 : Int))).bind fun (t374 : Int) => Res.ok (t374 % (5 : Int))).bind fun (t376 : Int) => Res.ok (t375 - t376)) := hs_
      refine blk_set (i := 5) L trivial hs_ fun factor_ => ?_
      show Blk _ _ _ _ _ [some (.im (toD script_)), some (.im (toD cell_)), some (.im (toD group_)), some (.im (toD start_)), some (.im (toD point_)), some (.im (toD factor_)), none] _
      try refine Blk.nx ?_
      exact (hk2 factor_).weak (.same (.same (.same (.same (.same (.same (.same .nil)))))))
    · intro hk2
      refine blk_nil ?_
      try refine Blk.nx ?_
      exact (hk2 factor_).weak (.same (.same (.same (.same (.same (.same (.same .nil)))))))
  · intro hk1
    have hs_ := ((ev_castG (f := Un.asL) asL_ok asL_x (ev_call (f := (fun (p : Str × Unit) => m_group_named p.1)) (ea_cons (ev_op opx_ixL (fun x y => idx_mild x y) (ev_ofN (en_lst (f := (fun y => ([y.1, y.2.1] : List Str))) (ea_cons (ev_str (x := "p256")) (ea_cons (ev_str (x := "secp256k1")) ea_nil)) (fun _ => rfl) (fun _ => by show 2 ≤ 100000; decide))) (ev_opI (C := (fun _ j => 0 < j)) (g := fun i j => i % j) (fun x y _ h => by cases h; (show (0 : Int) < _; decide)) (ev_opI (C := CDiv) (g := fun i j => i / j) (fun x y _ h => by cases h; exact ⟨by decide, by decide⟩) (ev_var (i := 1) (x := cell_) rfl) (ev_int (i := 8))) (ev_int (i := 2)))) ea_nil))) : EvX K (W0 E) [some (.im (toD script_)), some (.im (toD cell_)), some (.im (toD group_)), none, none, none, none] _ _); replace hs_ : EvX K (W0 E) [some (.im (toD script_)), some (.im (toD cell_)), some (.im (toD group_)), none, none, none, none] _ ((((idx ([("p256" : Str), ("secp256k1" : Str)] : List Str) ((cell_ / (8 : Int)) % (2 : Int))).bind fun a377 => Res.ok (a377, ())).bind fun p379 => m_group_named p379.1).bind Un.asL) := hs_
    refine blk_set (i := 2) L trivial hs_ fun group_ => ?_
    show Blk _ _ _ _ _ [some (.im (toD script_)), some (.im (toD cell_)), some (.im (toD group_)), none, none, none, none] _
    try refine Blk.nx ?_
    exact (hk1 group_).weak (.same (.same (.same (.same (.same (.same (.same .nil)))))))
  · intro hk1
    refine blk_nil ?_
    try refine Blk.nx ?_
    exact (hk1 group_).weak (.same (.same (.same (.same (.same (.same (.same .nil)))))))
/-! ### the head -/
def dfs : List He.DefD := [⟨("bits_from_top", none), "bits_from_top", "bits_from_top", defArgs s_bits_from_top, defBody s_bits_from_top, defScope s_bits_from_top, [], []⟩, ⟨("multiply_by_bits", none), "multiply_by_bits", "multiply_by_bits", defArgs s_multiply_by_bits, defBody s_multiply_by_bits, defScope s_multiply_by_bits, [], []⟩, ⟨("is_whole", none), "is_whole", "is_whole", defArgs s_is_whole, defBody s_is_whole, defScope s_is_whole, [], []⟩, ⟨("is_residue", none), "is_residue", "is_residue", defArgs s_is_residue, defBody s_is_residue, defScope s_is_residue, [], []⟩, ⟨("is_residue_pair", none), "is_residue_pair", "is_residue_pair", defArgs s_is_residue_pair, defBody s_is_residue_pair, defScope s_is_residue_pair, [], []⟩, ⟨("bezout", none), "bezout", "bezout", defArgs s_bezout, defBody s_bezout, defScope s_bezout, [], []⟩, ⟨("inverse", none), "inverse", "inverse", defArgs s_inverse, defBody s_inverse, defScope s_inverse, [], []⟩, ⟨("power", none), "power", "power", defArgs s_power, defBody s_power, defScope s_power, [], []⟩, ⟨("square_class", none), "square_class", "square_class", defArgs s_square_class, defBody s_square_class, defScope s_square_class, [], []⟩, ⟨("to_jacobian", none), "to_jacobian", "to_jacobian", defArgs s_to_jacobian, defBody s_to_jacobian, defScope s_to_jacobian, [], []⟩, ⟨("from_jacobian", none), "from_jacobian", "from_jacobian", defArgs s_from_jacobian, defBody s_from_jacobian, defScope s_from_jacobian, [], []⟩, ⟨("double_jacobian", none), "double_jacobian", "double_jacobian", defArgs s_double_jacobian, defBody s_double_jacobian, defScope s_double_jacobian, [], []⟩, ⟨("add_jacobian", none), "add_jacobian", "add_jacobian", defArgs s_add_jacobian, defBody s_add_jacobian, defScope s_add_jacobian, [], []⟩, ⟨("_scaled", none), "_scaled", "_scaled", defArgs s_u_scaled, defBody s_u_scaled, defScope s_u_scaled, [], []⟩, ⟨("multiply_jacobian", none), "multiply_jacobian", "multiply_jacobian", defArgs s_multiply_jacobian, defBody s_multiply_jacobian, defScope s_multiply_jacobian, [], []⟩, ⟨("EdwardsCurve", some "__init__"), "__init__", "EdwardsCurve.__init__", defArgs s_EdwardsCurve_init, defBody s_EdwardsCurve_init, defScope s_EdwardsCurve_init, [], []⟩, ⟨("EdwardsCurve", some "has"), "has", "EdwardsCurve.has", defArgs s_EdwardsCurve_has, defBody s_EdwardsCurve_has, defScope s_EdwardsCurve_has, [], []⟩, ⟨("EdwardsCurve", some "negate"), "negate", "EdwardsCurve.negate", defArgs s_EdwardsCurve_negate, defBody s_EdwardsCurve_negate, defScope s_EdwardsCurve_negate, [], []⟩, ⟨("EdwardsCurve", some "add"), "add", "EdwardsCurve.add", defArgs s_EdwardsCurve_add, defBody s_EdwardsCurve_add, defScope s_EdwardsCurve_add, [], []⟩, ⟨("to_extended", none), "to_extended", "to_extended", defArgs s_to_extended, defBody s_to_extended, defScope s_to_extended, [], []⟩, ⟨("from_extended", none), "from_extended", "from_extended", defArgs s_from_extended, defBody s_from_extended, defScope s_from_extended, [], []⟩, ⟨("add_extended", none), "add_extended", "add_extended", defArgs s_add_extended, defBody s_add_extended, defScope s_add_extended, [], []⟩, ⟨("multiply_extended", none), "multiply_extended", "multiply_extended", defArgs s_multiply_extended, defBody s_multiply_extended, defScope s_multiply_extended, [], []⟩, ⟨("_byte_size", none), "_byte_size", "_byte_size", defArgs s_u_byte_size, defBody s_u_byte_size, defScope s_u_byte_size, [], []⟩, ⟨("GroupFields", some "__init__"), "__init__", "GroupFields.__init__", defArgs s_Group_super__init__, defBody s_Group_super__init__, defScope s_Group_super__init__, [], []⟩, ⟨("Group", some "has"), "has", "Group.has", defArgs s_Group_has, defBody s_Group_has, defScope s_Group_has, [], []⟩, ⟨("Group", some "add"), "add", "Group.add", defArgs s_Group_add, defBody s_Group_add, defScope s_Group_add, [], []⟩, ⟨("Group", some "negate"), "negate", "Group.negate", defArgs s_Group_negate, defBody s_Group_negate, defScope s_Group_negate, [], []⟩, ⟨("Group", some "multiply"), "multiply", "Group.multiply", defArgs s_Group_multiply, defBody s_Group_multiply, defScope s_Group_multiply, [], []⟩, ⟨("GroupFields", some "__init__"), "__init__", "GroupFields.__init__", defArgs s_EdwardsGroup_super__init__, defBody s_EdwardsGroup_super__init__, defScope s_EdwardsGroup_super__init__, [], []⟩, ⟨("EdwardsGroup", some "has"), "has", "EdwardsGroup.has", defArgs s_EdwardsGroup_has, defBody s_EdwardsGroup_has, defScope s_EdwardsGroup_has, [], []⟩, ⟨("EdwardsGroup", some "add"), "add", "EdwardsGroup.add", defArgs s_EdwardsGroup_add, defBody s_EdwardsGroup_add, defScope s_EdwardsGroup_add, [], []⟩, ⟨("EdwardsGroup", some "negate"), "negate", "EdwardsGroup.negate", defArgs s_EdwardsGroup_negate, defBody s_EdwardsGroup_negate, defScope s_EdwardsGroup_negate, [], []⟩, ⟨("EdwardsGroup", some "multiply"), "multiply", "EdwardsGroup.multiply", defArgs s_EdwardsGroup_multiply, defBody s_EdwardsGroup_multiply, defScope s_EdwardsGroup_multiply, [], []⟩, ⟨("Curve", some "__init__"), "__init__", "Curve.__init__", defArgs s_Curve_init, defBody s_Curve_init, defScope s_Curve_init, [], []⟩, ⟨("Curve", some "has"), "has", "Curve.has", defArgs s_Curve_has, defBody s_Curve_has, defScope s_Curve_has, [], []⟩, ⟨("Curve", some "_right_side"), "_right_side", "Curve._right_side", defArgs s_Curve_u_right_side, defBody s_Curve_u_right_side, defScope s_Curve_u_right_side, [], []⟩, ⟨("Curve", some "negate"), "negate", "Curve.negate", defArgs s_Curve_negate, defBody s_Curve_negate, defScope s_Curve_negate, [], []⟩, ⟨("Curve", some "add"), "add", "Curve.add", defArgs s_Curve_add, defBody s_Curve_add, defScope s_Curve_add, [], []⟩, ⟨("Curve", some "_slope"), "_slope", "Curve._slope", defArgs s_Curve_u_slope, defBody s_Curve_u_slope, defScope s_Curve_u_slope, [], []⟩, ⟨("Curve", some "multiply"), "multiply", "Curve.multiply", defArgs s_Curve_multiply, defBody s_Curve_multiply, defScope s_Curve_multiply, [], []⟩, ⟨("group_kind", none), "group_kind", "group_kind", defArgs s_group_kind, defBody s_group_kind, defScope s_group_kind, [], []⟩, ⟨("group_named", none), "group_named", "group_named", defArgs s_group_named, defBody s_group_named, defScope s_group_named, [], []⟩, ⟨("_law_cell", none), "_law_cell", "_law_cell", defArgs s_u_law_cell, defBody s_u_law_cell, defScope s_u_law_cell, [], []⟩, ⟨("_law_number", none), "_law_number", "_law_number", defArgs s_u_law_number, defBody s_u_law_number, defScope s_u_law_number, [], []⟩, ⟨("law", none), "law", "law", defArgs s_law, defBody s_law, defScope s_law, [], []⟩]
def sus : List SupD := [⟨"Group", "__init__", "Group.__init__", defArgs s_Group_init, defBody s_Group_init, defScope s_Group_init, fileS⟩, ⟨"EdwardsGroup", "__init__", "EdwardsGroup.__init__", defArgs s_EdwardsGroup_init, defBody s_EdwardsGroup_init, defScope s_EdwardsGroup_init, fileS⟩]
def tbs : List He.Tab := [(fun K => He.ga K "EDWARDS_NUMBERS", (tabD k_EDWARDS_NUMBERS).map (·.1)), (fun K => He.ga K "WEIERSTRASS_NUMBERS", (tabD k_WEIERSTRASS_NUMBERS).map (·.1))]
def fas : List He.Fa := [.glo "bits_from_top", .glo "multiply_by_bits", .glo "is_whole", .glo "is_residue", .glo "is_residue_pair", .glo "bezout", .glo "inverse", .glo "power", .glo "square_class", .glo "to_jacobian", .glo "from_jacobian", .glo "double_jacobian", .glo "add_jacobian", .glo "_scaled", .glo "multiply_jacobian", .glo "to_extended", .glo "from_extended", .glo "add_extended", .glo "multiply_extended", .glo "_byte_size", .glo "group_kind", .glo "group_named", .glo "_law_cell", .glo "_law_number", .glo "law", .glo "EdwardsCurve", .cls "EdwardsCurve", .glo "EdwardsGroup", .cls "EdwardsGroup", .glo "Curve", .cls "Curve", .glo "Group", .cls "Group", .noat "Curve" "a", .noat "Curve" "b", .noat "Curve" "prime", .noat "EdwardsCurve" "a", .noat "EdwardsCurve" "d", .noat "EdwardsCurve" "prime", .noat "EdwardsGroup" "base", .noat "EdwardsGroup" "cofactor", .noat "EdwardsGroup" "curve", .noat "EdwardsGroup" "kind", .noat "EdwardsGroup" "name", .noat "EdwardsGroup" "order", .noat "EdwardsGroup" "order_size", .noat "EdwardsGroup" "prime", .noat "EdwardsGroup" "size", .noat "Group" "base", .noat "Group" "cofactor", .noat "Group" "curve", .noat "Group" "kind", .noat "Group" "name", .noat "Group" "order", .noat "Group" "order_size", .noat "Group" "prime", .noat "Group" "size", .meth "Curve" "_right_side", .meth "Curve" "_slope", .meth "Curve" "add", .meth "Curve" "has", .meth "Curve" "multiply", .meth "Curve" "negate", .meth "EdwardsCurve" "add", .meth "EdwardsCurve" "has", .meth "EdwardsCurve" "negate", .meth "Group" "has", .meth "Group" "multiply", .meth "Group" "negate", .mkr "Curve", .mkr "EdwardsCurve", .mkr "EdwardsGroup", .mkr "Group", .glo "CurveError", .glo "OutOfRange", .glo "Malformed", .glo "NotAPoint", .glo "NoInverse", .glo "Refused", .exc "Malformed", .exc "NoInverse", .exc "NotAPoint", .exc "OutOfRange", .exc "Refused", .free "abs", .free "all", .free "bool", .free "int", .free "isinstance", .free "len", .free "range", .free "super", .free "tuple", .exm "CurveError" "CurveError" true, .exm "CurveError" "OutOfRange" false, .exm "CurveError" "Malformed" false, .exm "CurveError" "NotAPoint" false, .exm "CurveError" "NoInverse" false, .exm "CurveError" "Refused" false, .exm "OutOfRange" "CurveError" true, .exm "OutOfRange" "OutOfRange" true, .exm "OutOfRange" "Malformed" false, .exm "OutOfRange" "NotAPoint" false, .exm "OutOfRange" "NoInverse" false, .exm "OutOfRange" "Refused" false, .exm "Malformed" "CurveError" true, .exm "Malformed" "OutOfRange" false, .exm "Malformed" "Malformed" true, .exm "Malformed" "NotAPoint" false, .exm "Malformed" "NoInverse" false, .exm "Malformed" "Refused" false, .exm "NotAPoint" "CurveError" true, .exm "NotAPoint" "OutOfRange" false, .exm "NotAPoint" "Malformed" false, .exm "NotAPoint" "NotAPoint" true, .exm "NotAPoint" "NoInverse" false, .exm "NotAPoint" "Refused" false, .exm "NoInverse" "CurveError" true, .exm "NoInverse" "OutOfRange" false, .exm "NoInverse" "Malformed" false, .exm "NoInverse" "NotAPoint" false, .exm "NoInverse" "NoInverse" true, .exm "NoInverse" "Refused" false, .exm "Refused" "CurveError" true, .exm "Refused" "OutOfRange" false, .exm "Refused" "Malformed" false, .exm "Refused" "NotAPoint" false, .exm "Refused" "NoInverse" false, .exm "Refused" "Refused" true, .glo "EDWARDS_NUMBERS", .glo "WEIERSTRASS_NUMBERS"]
def cons_ : List (Str × D) := [("INFINITY", toD k_INFINITY), ("NEUTRAL_FOUR", toD k_NEUTRAL_FOUR)]
def exB (K : PySem.W.Frag) : Bool := (clsB K errs subE && (conB K cons_ && (tabB K (He.ga K "EDWARDS_NUMBERS") (tabD k_EDWARDS_NUMBERS) && (tabB K (He.ga K "WEIERSTRASS_NUMBERS") (tabD k_WEIERSTRASS_NUMBERS) && (supB K "EdwardsGroup" "EdwardsGroup" "GroupFields" && supB K "Group" "Group" "GroupFields")))))
abbrev Rw : PySem.W.OpenRow := PySem.W.OpenLaw.row PySem.Challenge.rw_curveseal_k13_long_multiples
abbrev hk : PySem.W.Hook := hookY 5 fas dfs tbs sus exB
def ob (s : PySem.W.SharedT) : AlY := obsY 5 fas dfs tbs sus exB (HandSHeadRun.getT s)
theorem ob_eq (s : PySem.W.SharedT) : ob s = hk.obs s.abs := obsY_eq (HandSHeadRun.getT_eq s)
theorem run_f (w : World) : HandSHeadRun.RunEq Rw (PySem.W.view Rw.prog [53]) hk ob 40000 ((["bits_from_top", "multiply_by_bits", "is_whole", "is_residue", "is_residue_pair", "bezout", "inverse", "power", "square_class", "to_jacobian", "from_jacobian", "double_jacobian", "add_jacobian", "_scaled", "multiply_jacobian", "to_extended", "from_extended", "add_extended", "multiply_extended", "_byte_size", "group_kind", "group_named", "_law_cell", "_law_is_integer", "_law_number"] : List Str) ++ (["_wall", "CurveError", "OutOfRange", "Malformed", "NotAPoint", "NoInverse", "Refused", "EdwardsCurve", "GroupFields", "Group", "EdwardsGroup", "Curve", "INFINITY", "NEUTRAL", "NEUTRAL_FOUR", "WEIERSTRASS_NUMBERS", "EDWARDS_NUMBERS"] : List Str)) (w.withFollow "special-get-raises" false) := by
  intro os
  kernel_rfl
theorem run_t (w : World) : HandSHeadRun.RunEq Rw (PySem.W.view Rw.prog [53]) hk ob 40000 ((["bits_from_top", "multiply_by_bits", "is_whole", "is_residue", "is_residue_pair", "bezout", "inverse", "power", "square_class", "to_jacobian", "from_jacobian", "double_jacobian", "add_jacobian", "_scaled", "multiply_jacobian", "to_extended", "from_extended", "add_extended", "multiply_extended", "_byte_size", "group_kind", "group_named", "_law_cell", "_law_is_integer", "_law_number"] : List Str) ++ (["_wall", "CurveError", "OutOfRange", "Malformed", "NotAPoint", "NoInverse", "Refused", "EdwardsCurve", "GroupFields", "Group", "EdwardsGroup", "Curve", "INFINITY", "NEUTRAL", "NEUTRAL_FOUR", "WEIERSTRASS_NUMBERS", "EDWARDS_NUMBERS"] : List Str)) (w.withFollow "special-get-raises" true) := by
  intro os
  kernel_rfl
theorem run_ (w : World) : HandSHeadRun.RunEq Rw (PySem.W.view Rw.prog [53]) hk ob 40000 ((["bits_from_top", "multiply_by_bits", "is_whole", "is_residue", "is_residue_pair", "bezout", "inverse", "power", "square_class", "to_jacobian", "from_jacobian", "double_jacobian", "add_jacobian", "_scaled", "multiply_jacobian", "to_extended", "from_extended", "add_extended", "multiply_extended", "_byte_size", "group_kind", "group_named", "_law_cell", "_law_is_integer", "_law_number"] : List Str) ++ (["_wall", "CurveError", "OutOfRange", "Malformed", "NotAPoint", "NoInverse", "Refused", "EdwardsCurve", "GroupFields", "Group", "EdwardsGroup", "Curve", "INFINITY", "NEUTRAL", "NEUTRAL_FOUR", "WEIERSTRASS_NUMBERS", "EDWARDS_NUMBERS"] : List Str)) w := PySem.W.byRow2 "special-get-raises" run_f run_t w
theorem facts_of {K : PySem.W.Frag} {h : Heap} {w : World} {mg : Str → Option Value} (X : K.In h) (G : h.Ns mainGlobals mg) (c : SaysY fas dfs tbs sus exB w K) : Facts Rw.prog w K mg := by
  have cd : He.SaysD fas dfs K := c.t.d
  exact {
    d_Group_init := c.sup _ (List.mem_of_getElem? (i := 0) rfl)
    d_EdwardsGroup_init := c.sup _ (List.mem_of_getElem? (i := 1) rfl)
    d_bits_from_top := cd.def_ 0 (d := ⟨("bits_from_top", none), "bits_from_top", "bits_from_top", defArgs s_bits_from_top, defBody s_bits_from_top, defScope s_bits_from_top, [], []⟩) rfl
    g_bits_from_top := He.glo_ok X G (cd.fact 0 rfl)
    d_multiply_by_bits := cd.def_ 1 (d := ⟨("multiply_by_bits", none), "multiply_by_bits", "multiply_by_bits", defArgs s_multiply_by_bits, defBody s_multiply_by_bits, defScope s_multiply_by_bits, [], []⟩) rfl
    g_multiply_by_bits := He.glo_ok X G (cd.fact 1 rfl)
    d_is_whole := cd.def_ 2 (d := ⟨("is_whole", none), "is_whole", "is_whole", defArgs s_is_whole, defBody s_is_whole, defScope s_is_whole, [], []⟩) rfl
    g_is_whole := He.glo_ok X G (cd.fact 2 rfl)
    d_is_residue := cd.def_ 3 (d := ⟨("is_residue", none), "is_residue", "is_residue", defArgs s_is_residue, defBody s_is_residue, defScope s_is_residue, [], []⟩) rfl
    g_is_residue := He.glo_ok X G (cd.fact 3 rfl)
    d_is_residue_pair := cd.def_ 4 (d := ⟨("is_residue_pair", none), "is_residue_pair", "is_residue_pair", defArgs s_is_residue_pair, defBody s_is_residue_pair, defScope s_is_residue_pair, [], []⟩) rfl
    g_is_residue_pair := He.glo_ok X G (cd.fact 4 rfl)
    d_bezout := cd.def_ 5 (d := ⟨("bezout", none), "bezout", "bezout", defArgs s_bezout, defBody s_bezout, defScope s_bezout, [], []⟩) rfl
    g_bezout := He.glo_ok X G (cd.fact 5 rfl)
    d_inverse := cd.def_ 6 (d := ⟨("inverse", none), "inverse", "inverse", defArgs s_inverse, defBody s_inverse, defScope s_inverse, [], []⟩) rfl
    g_inverse := He.glo_ok X G (cd.fact 6 rfl)
    d_power := cd.def_ 7 (d := ⟨("power", none), "power", "power", defArgs s_power, defBody s_power, defScope s_power, [], []⟩) rfl
    g_power := He.glo_ok X G (cd.fact 7 rfl)
    d_square_class := cd.def_ 8 (d := ⟨("square_class", none), "square_class", "square_class", defArgs s_square_class, defBody s_square_class, defScope s_square_class, [], []⟩) rfl
    g_square_class := He.glo_ok X G (cd.fact 8 rfl)
    d_to_jacobian := cd.def_ 9 (d := ⟨("to_jacobian", none), "to_jacobian", "to_jacobian", defArgs s_to_jacobian, defBody s_to_jacobian, defScope s_to_jacobian, [], []⟩) rfl
    g_to_jacobian := He.glo_ok X G (cd.fact 9 rfl)
    d_from_jacobian := cd.def_ 10 (d := ⟨("from_jacobian", none), "from_jacobian", "from_jacobian", defArgs s_from_jacobian, defBody s_from_jacobian, defScope s_from_jacobian, [], []⟩) rfl
    g_from_jacobian := He.glo_ok X G (cd.fact 10 rfl)
    d_double_jacobian := cd.def_ 11 (d := ⟨("double_jacobian", none), "double_jacobian", "double_jacobian", defArgs s_double_jacobian, defBody s_double_jacobian, defScope s_double_jacobian, [], []⟩) rfl
    g_double_jacobian := He.glo_ok X G (cd.fact 11 rfl)
    d_add_jacobian := cd.def_ 12 (d := ⟨("add_jacobian", none), "add_jacobian", "add_jacobian", defArgs s_add_jacobian, defBody s_add_jacobian, defScope s_add_jacobian, [], []⟩) rfl
    g_add_jacobian := He.glo_ok X G (cd.fact 12 rfl)
    d_u_scaled := cd.def_ 13 (d := ⟨("_scaled", none), "_scaled", "_scaled", defArgs s_u_scaled, defBody s_u_scaled, defScope s_u_scaled, [], []⟩) rfl
    g_u_scaled := He.glo_ok X G (cd.fact 13 rfl)
    d_multiply_jacobian := cd.def_ 14 (d := ⟨("multiply_jacobian", none), "multiply_jacobian", "multiply_jacobian", defArgs s_multiply_jacobian, defBody s_multiply_jacobian, defScope s_multiply_jacobian, [], []⟩) rfl
    g_multiply_jacobian := He.glo_ok X G (cd.fact 14 rfl)
    d_EdwardsCurve_init := cd.def_ 15 (d := ⟨("EdwardsCurve", some "__init__"), "__init__", "EdwardsCurve.__init__", defArgs s_EdwardsCurve_init, defBody s_EdwardsCurve_init, defScope s_EdwardsCurve_init, [], []⟩) rfl
    d_EdwardsCurve_has := cd.def_ 16 (d := ⟨("EdwardsCurve", some "has"), "has", "EdwardsCurve.has", defArgs s_EdwardsCurve_has, defBody s_EdwardsCurve_has, defScope s_EdwardsCurve_has, [], []⟩) rfl
    d_EdwardsCurve_negate := cd.def_ 17 (d := ⟨("EdwardsCurve", some "negate"), "negate", "EdwardsCurve.negate", defArgs s_EdwardsCurve_negate, defBody s_EdwardsCurve_negate, defScope s_EdwardsCurve_negate, [], []⟩) rfl
    d_EdwardsCurve_add := cd.def_ 18 (d := ⟨("EdwardsCurve", some "add"), "add", "EdwardsCurve.add", defArgs s_EdwardsCurve_add, defBody s_EdwardsCurve_add, defScope s_EdwardsCurve_add, [], []⟩) rfl
    d_to_extended := cd.def_ 19 (d := ⟨("to_extended", none), "to_extended", "to_extended", defArgs s_to_extended, defBody s_to_extended, defScope s_to_extended, [], []⟩) rfl
    g_to_extended := He.glo_ok X G (cd.fact 15 rfl)
    d_from_extended := cd.def_ 20 (d := ⟨("from_extended", none), "from_extended", "from_extended", defArgs s_from_extended, defBody s_from_extended, defScope s_from_extended, [], []⟩) rfl
    g_from_extended := He.glo_ok X G (cd.fact 16 rfl)
    d_add_extended := cd.def_ 21 (d := ⟨("add_extended", none), "add_extended", "add_extended", defArgs s_add_extended, defBody s_add_extended, defScope s_add_extended, [], []⟩) rfl
    g_add_extended := He.glo_ok X G (cd.fact 17 rfl)
    d_multiply_extended := cd.def_ 22 (d := ⟨("multiply_extended", none), "multiply_extended", "multiply_extended", defArgs s_multiply_extended, defBody s_multiply_extended, defScope s_multiply_extended, [], []⟩) rfl
    g_multiply_extended := He.glo_ok X G (cd.fact 18 rfl)
    d_u_byte_size := cd.def_ 23 (d := ⟨("_byte_size", none), "_byte_size", "_byte_size", defArgs s_u_byte_size, defBody s_u_byte_size, defScope s_u_byte_size, [], []⟩) rfl
    g_u_byte_size := He.glo_ok X G (cd.fact 19 rfl)
    d_Group_super__init__ := cd.def_ 24 (d := ⟨("GroupFields", some "__init__"), "__init__", "GroupFields.__init__", defArgs s_Group_super__init__, defBody s_Group_super__init__, defScope s_Group_super__init__, [], []⟩) rfl
    d_Group_has := cd.def_ 25 (d := ⟨("Group", some "has"), "has", "Group.has", defArgs s_Group_has, defBody s_Group_has, defScope s_Group_has, [], []⟩) rfl
    d_Group_add := cd.def_ 26 (d := ⟨("Group", some "add"), "add", "Group.add", defArgs s_Group_add, defBody s_Group_add, defScope s_Group_add, [], []⟩) rfl
    d_Group_negate := cd.def_ 27 (d := ⟨("Group", some "negate"), "negate", "Group.negate", defArgs s_Group_negate, defBody s_Group_negate, defScope s_Group_negate, [], []⟩) rfl
    d_Group_multiply := cd.def_ 28 (d := ⟨("Group", some "multiply"), "multiply", "Group.multiply", defArgs s_Group_multiply, defBody s_Group_multiply, defScope s_Group_multiply, [], []⟩) rfl
    d_EdwardsGroup_super__init__ := cd.def_ 29 (d := ⟨("GroupFields", some "__init__"), "__init__", "GroupFields.__init__", defArgs s_EdwardsGroup_super__init__, defBody s_EdwardsGroup_super__init__, defScope s_EdwardsGroup_super__init__, [], []⟩) rfl
    d_EdwardsGroup_has := cd.def_ 30 (d := ⟨("EdwardsGroup", some "has"), "has", "EdwardsGroup.has", defArgs s_EdwardsGroup_has, defBody s_EdwardsGroup_has, defScope s_EdwardsGroup_has, [], []⟩) rfl
    d_EdwardsGroup_add := cd.def_ 31 (d := ⟨("EdwardsGroup", some "add"), "add", "EdwardsGroup.add", defArgs s_EdwardsGroup_add, defBody s_EdwardsGroup_add, defScope s_EdwardsGroup_add, [], []⟩) rfl
    d_EdwardsGroup_negate := cd.def_ 32 (d := ⟨("EdwardsGroup", some "negate"), "negate", "EdwardsGroup.negate", defArgs s_EdwardsGroup_negate, defBody s_EdwardsGroup_negate, defScope s_EdwardsGroup_negate, [], []⟩) rfl
    d_EdwardsGroup_multiply := cd.def_ 33 (d := ⟨("EdwardsGroup", some "multiply"), "multiply", "EdwardsGroup.multiply", defArgs s_EdwardsGroup_multiply, defBody s_EdwardsGroup_multiply, defScope s_EdwardsGroup_multiply, [], []⟩) rfl
    d_Curve_init := cd.def_ 34 (d := ⟨("Curve", some "__init__"), "__init__", "Curve.__init__", defArgs s_Curve_init, defBody s_Curve_init, defScope s_Curve_init, [], []⟩) rfl
    d_Curve_has := cd.def_ 35 (d := ⟨("Curve", some "has"), "has", "Curve.has", defArgs s_Curve_has, defBody s_Curve_has, defScope s_Curve_has, [], []⟩) rfl
    d_Curve_u_right_side := cd.def_ 36 (d := ⟨("Curve", some "_right_side"), "_right_side", "Curve._right_side", defArgs s_Curve_u_right_side, defBody s_Curve_u_right_side, defScope s_Curve_u_right_side, [], []⟩) rfl
    d_Curve_negate := cd.def_ 37 (d := ⟨("Curve", some "negate"), "negate", "Curve.negate", defArgs s_Curve_negate, defBody s_Curve_negate, defScope s_Curve_negate, [], []⟩) rfl
    d_Curve_add := cd.def_ 38 (d := ⟨("Curve", some "add"), "add", "Curve.add", defArgs s_Curve_add, defBody s_Curve_add, defScope s_Curve_add, [], []⟩) rfl
    d_Curve_u_slope := cd.def_ 39 (d := ⟨("Curve", some "_slope"), "_slope", "Curve._slope", defArgs s_Curve_u_slope, defBody s_Curve_u_slope, defScope s_Curve_u_slope, [], []⟩) rfl
    d_Curve_multiply := cd.def_ 40 (d := ⟨("Curve", some "multiply"), "multiply", "Curve.multiply", defArgs s_Curve_multiply, defBody s_Curve_multiply, defScope s_Curve_multiply, [], []⟩) rfl
    d_group_kind := cd.def_ 41 (d := ⟨("group_kind", none), "group_kind", "group_kind", defArgs s_group_kind, defBody s_group_kind, defScope s_group_kind, [], []⟩) rfl
    g_group_kind := He.glo_ok X G (cd.fact 20 rfl)
    d_group_named := cd.def_ 42 (d := ⟨("group_named", none), "group_named", "group_named", defArgs s_group_named, defBody s_group_named, defScope s_group_named, [], []⟩) rfl
    g_group_named := He.glo_ok X G (cd.fact 21 rfl)
    d_u_law_cell := cd.def_ 43 (d := ⟨("_law_cell", none), "_law_cell", "_law_cell", defArgs s_u_law_cell, defBody s_u_law_cell, defScope s_u_law_cell, [], []⟩) rfl
    g_u_law_cell := He.glo_ok X G (cd.fact 22 rfl)
    d_u_law_number := cd.def_ 44 (d := ⟨("_law_number", none), "_law_number", "_law_number", defArgs s_u_law_number, defBody s_u_law_number, defScope s_u_law_number, [], []⟩) rfl
    g_u_law_number := He.glo_ok X G (cd.fact 23 rfl)
    d_law := cd.def_ 45 (d := ⟨("law", none), "law", "law", defArgs s_law, defBody s_law, defScope s_law, [], []⟩) rfl
    g_law := He.glo_ok X G (cd.fact 24 rfl)
    g_EdwardsCurve := He.glo_ok X G (cd.fact 25 rfl)
    cl_EdwardsCurve := He.cls_ok (x := "EdwardsCurve") (cd.fact 26 rfl)
    g_EdwardsGroup := He.glo_ok X G (cd.fact 27 rfl)
    cl_EdwardsGroup := He.cls_ok (x := "EdwardsGroup") (cd.fact 28 rfl)
    g_Curve := He.glo_ok X G (cd.fact 29 rfl)
    cl_Curve := He.cls_ok (x := "Curve") (cd.fact 30 rfl)
    g_Group := He.glo_ok X G (cd.fact 31 rfl)
    cl_Group := He.cls_ok (x := "Group") (cd.fact 32 rfl)
    nf_Curve_a := He.noat_ok (x := "Curve") (f := "a") (cd.fact 33 rfl)
    nf_Curve_b := He.noat_ok (x := "Curve") (f := "b") (cd.fact 34 rfl)
    nf_Curve_prime := He.noat_ok (x := "Curve") (f := "prime") (cd.fact 35 rfl)
    nf_EdwardsCurve_a := He.noat_ok (x := "EdwardsCurve") (f := "a") (cd.fact 36 rfl)
    nf_EdwardsCurve_d := He.noat_ok (x := "EdwardsCurve") (f := "d") (cd.fact 37 rfl)
    nf_EdwardsCurve_prime := He.noat_ok (x := "EdwardsCurve") (f := "prime") (cd.fact 38 rfl)
    nf_EdwardsGroup_base := He.noat_ok (x := "EdwardsGroup") (f := "base") (cd.fact 39 rfl)
    nf_EdwardsGroup_cofactor := He.noat_ok (x := "EdwardsGroup") (f := "cofactor") (cd.fact 40 rfl)
    nf_EdwardsGroup_curve := He.noat_ok (x := "EdwardsGroup") (f := "curve") (cd.fact 41 rfl)
    nf_EdwardsGroup_kind := He.noat_ok (x := "EdwardsGroup") (f := "kind") (cd.fact 42 rfl)
    nf_EdwardsGroup_name := He.noat_ok (x := "EdwardsGroup") (f := "name") (cd.fact 43 rfl)
    nf_EdwardsGroup_order := He.noat_ok (x := "EdwardsGroup") (f := "order") (cd.fact 44 rfl)
    nf_EdwardsGroup_order_size := He.noat_ok (x := "EdwardsGroup") (f := "order_size") (cd.fact 45 rfl)
    nf_EdwardsGroup_prime := He.noat_ok (x := "EdwardsGroup") (f := "prime") (cd.fact 46 rfl)
    nf_EdwardsGroup_size := He.noat_ok (x := "EdwardsGroup") (f := "size") (cd.fact 47 rfl)
    nf_Group_base := He.noat_ok (x := "Group") (f := "base") (cd.fact 48 rfl)
    nf_Group_cofactor := He.noat_ok (x := "Group") (f := "cofactor") (cd.fact 49 rfl)
    nf_Group_curve := He.noat_ok (x := "Group") (f := "curve") (cd.fact 50 rfl)
    nf_Group_kind := He.noat_ok (x := "Group") (f := "kind") (cd.fact 51 rfl)
    nf_Group_name := He.noat_ok (x := "Group") (f := "name") (cd.fact 52 rfl)
    nf_Group_order := He.noat_ok (x := "Group") (f := "order") (cd.fact 53 rfl)
    nf_Group_order_size := He.noat_ok (x := "Group") (f := "order_size") (cd.fact 54 rfl)
    nf_Group_prime := He.noat_ok (x := "Group") (f := "prime") (cd.fact 55 rfl)
    nf_Group_size := He.noat_ok (x := "Group") (f := "size") (cd.fact 56 rfl)
    mt_Curve_u_right_side := He.meth_ok (x := "Curve") (m := "_right_side") (cd.fact 57 rfl)
    mt_Curve_u_slope := He.meth_ok (x := "Curve") (m := "_slope") (cd.fact 58 rfl)
    mt_Curve_add := He.meth_ok (x := "Curve") (m := "add") (cd.fact 59 rfl)
    mt_Curve_has := He.meth_ok (x := "Curve") (m := "has") (cd.fact 60 rfl)
    mt_Curve_multiply := He.meth_ok (x := "Curve") (m := "multiply") (cd.fact 61 rfl)
    mt_Curve_negate := He.meth_ok (x := "Curve") (m := "negate") (cd.fact 62 rfl)
    mt_EdwardsCurve_add := He.meth_ok (x := "EdwardsCurve") (m := "add") (cd.fact 63 rfl)
    mt_EdwardsCurve_has := He.meth_ok (x := "EdwardsCurve") (m := "has") (cd.fact 64 rfl)
    mt_EdwardsCurve_negate := He.meth_ok (x := "EdwardsCurve") (m := "negate") (cd.fact 65 rfl)
    mt_Group_has := He.meth_ok (x := "Group") (m := "has") (cd.fact 66 rfl)
    mt_Group_multiply := He.meth_ok (x := "Group") (m := "multiply") (cd.fact 67 rfl)
    mt_Group_negate := He.meth_ok (x := "Group") (m := "negate") (cd.fact 68 rfl)
    mk_Curve := He.mkr_ok (x := "Curve") (cd.fact 69 rfl)
    mk_EdwardsCurve := He.mkr_ok (x := "EdwardsCurve") (cd.fact 70 rfl)
    mk_EdwardsGroup := He.mkr_ok (x := "EdwardsGroup") (cd.fact 71 rfl)
    mk_Group := He.mkr_ok (x := "Group") (cd.fact 72 rfl)
    g_CurveError := He.glo_ok X G (cd.fact 73 rfl)
    g_OutOfRange := He.glo_ok X G (cd.fact 74 rfl)
    g_Malformed := He.glo_ok X G (cd.fact 75 rfl)
    g_NotAPoint := He.glo_ok X G (cd.fact 76 rfl)
    g_NoInverse := He.glo_ok X G (cd.fact 77 rfl)
    g_Refused := He.glo_ok X G (cd.fact 78 rfl)
    x_Malformed := (He.exc_ok (x := "Malformed") (cd.fact 79 rfl)).1
    k_Malformed := (He.exc_ok (x := "Malformed") (cd.fact 79 rfl)).2.1
    b_Malformed := (He.exc_ok (x := "Malformed") (cd.fact 79 rfl)).2.2.1
    t_Malformed := (He.exc_ok (x := "Malformed") (cd.fact 79 rfl)).2.2.2
    x_NoInverse := (He.exc_ok (x := "NoInverse") (cd.fact 80 rfl)).1
    k_NoInverse := (He.exc_ok (x := "NoInverse") (cd.fact 80 rfl)).2.1
    b_NoInverse := (He.exc_ok (x := "NoInverse") (cd.fact 80 rfl)).2.2.1
    t_NoInverse := (He.exc_ok (x := "NoInverse") (cd.fact 80 rfl)).2.2.2
    x_NotAPoint := (He.exc_ok (x := "NotAPoint") (cd.fact 81 rfl)).1
    k_NotAPoint := (He.exc_ok (x := "NotAPoint") (cd.fact 81 rfl)).2.1
    b_NotAPoint := (He.exc_ok (x := "NotAPoint") (cd.fact 81 rfl)).2.2.1
    t_NotAPoint := (He.exc_ok (x := "NotAPoint") (cd.fact 81 rfl)).2.2.2
    x_OutOfRange := (He.exc_ok (x := "OutOfRange") (cd.fact 82 rfl)).1
    k_OutOfRange := (He.exc_ok (x := "OutOfRange") (cd.fact 82 rfl)).2.1
    b_OutOfRange := (He.exc_ok (x := "OutOfRange") (cd.fact 82 rfl)).2.2.1
    t_OutOfRange := (He.exc_ok (x := "OutOfRange") (cd.fact 82 rfl)).2.2.2
    x_Refused := (He.exc_ok (x := "Refused") (cd.fact 83 rfl)).1
    k_Refused := (He.exc_ok (x := "Refused") (cd.fact 83 rfl)).2.1
    b_Refused := (He.exc_ok (x := "Refused") (cd.fact 83 rfl)).2.2.1
    t_Refused := (He.exc_ok (x := "Refused") (cd.fact 83 rfl)).2.2.2
    n_abs := He.free_ok X G (cd.fact 84 rfl)
    n_all := He.free_ok X G (cd.fact 85 rfl)
    n_bool := He.free_ok X G (cd.fact 86 rfl)
    n_int := He.free_ok X G (cd.fact 87 rfl)
    n_isinstance := He.free_ok X G (cd.fact 88 rfl)
    n_len := He.free_ok X G (cd.fact 89 rfl)
    n_range := He.free_ok X G (cd.fact 90 rfl)
    n_super := He.free_ok X G (cd.fact 91 rfl)
    n_tuple := He.free_ok X G (cd.fact 92 rfl)
    c_INFINITY := con_of X G (He.ba (He.ba (c.more)).2).1 (List.mem_of_getElem? (i := 0) rfl)
    c_NEUTRAL_FOUR := con_of X G (He.ba (He.ba (c.more)).2).1 (List.mem_of_getElem? (i := 1) rfl)
    c_EDWARDS_NUMBERS := tabF_of X G (cd.fact 129 rfl) (He.ba (He.ba (He.ba (c.more)).2).2).1 (saysT_tab c.t 0 rfl)
    c_WEIERSTRASS_NUMBERS := tabF_of X G (cd.fact 130 rfl) (He.ba (He.ba (He.ba (He.ba (c.more)).2).2).2).1 (saysT_tab c.t 1 rfl)
    u_EdwardsGroup := supB_ok (He.ba (He.ba (He.ba (He.ba (He.ba (c.more)).2).2).2).2).1
    u_Group := supB_ok (He.ba (He.ba (He.ba (He.ba (He.ba (c.more)).2).2).2).2).2
    fil := by decide +kernel
    sup := by decide +kernel
    cls := cls_of (He.ba (c.more)).1 }
end Mi
namespace Mi
open PySem PySem.Spec L2
/-! ### the law's own helpers -/
theorem cell_ok (ns : Ro Int) (k : Nat) : m_u_law_cell ns (k : Int) = .ok (ns.xs.getD k 0) := by
  unfold m_u_law_cell
  simp only [Res.bind_ok, cond_dec]
  by_cases h : (k : Int) < (ns.xs.length : Int)
  · rw [if_pos h]
    have h' : k < ns.xs.length := by omega
    rw [idx_nat (List.getElem?_eq_getElem h')]
    simp [Res.bind_ok, h']
  · rw [if_neg h]
    have h' : ¬ k < ns.xs.length := by omega
    simp [h']
theorem cell_bits {ns : Ro Int} {B : Nat} (hb : ∀ i ∈ ns.xs, Builtin.Int.intBits i ≤ B) (k : Nat) : (ns.xs.getD k 0).natAbs < 2 ^ B := by
  rw [List.getD_eq_getElem?_getD]
  by_cases h : k < ns.xs.length
  · rw [List.getElem?_eq_getElem h]
    exact ibits_le (hb _ (List.getElem_mem h))
  · rw [List.getElem?_eq_none (by omega)]
    exact Nat.two_pow_pos _
theorem cell_ex (ns : Ro Int) {k : Int} (hk : 0 ≤ k) : ∃ c, m_u_law_cell ns k = .ok c := by
  obtain ⟨j, rfl⟩ := Int.eq_ofNat_of_zero_le hk
  exact ⟨_, cell_ok ns j⟩


theorem ipow2 (x : Int) : x ^ 2 = x * x := by rw [Int.pow_succ, Int.pow_succ, Int.pow_zero, Int.one_mul]
theorem pyDown_nil {i j : Int} (h : i ≤ j) : pyDown i j = [] := by
  unfold pyDown; rw [show (i - j).toNat = 0 by omega]; rfl
theorem pyDown_cons {i j : Int} (h : j < i) : pyDown i j = i :: pyDown (i - 1) j := by
  unfold pyDown
  rw [show (i - j).toNat = (i - 1 - j).toNat + 1 by omega, List.range_succ_eq_map, List.map_cons, List.map_map]
  congr 1
  · omega
  · refine List.map_congr_left fun a _ => ?_
    show i - ((a + 1 : Nat) : Int) = i - 1 - (a : Int)
    omega
structure Pr (p : Nat) : Prop where
  pr : IsP p
  odd : p % 2 = 1
  lt : p < 2 ^ 256
theorem Pr.ge {p : Nat} (h : Pr p) : 3 ≤ p := by have := h.pr.1; have := h.odd; omega
theorem Pr.pos {p : Nat} (h : Pr p) : (0 : Int) < (p : Int) := by have := h.ge; omega
theorem res_lt {p : Nat} (h : Pr p) {x : Int} (h0 : 0 ≤ x) (h1 : x < p) : x.natAbs < 2 ^ 256 := by have := h.lt; omega
theorem mul_res {p : Nat} (h : Pr p) {x y : Int} (h0 : 0 ≤ x) (h1 : x < p) (h2 : 0 ≤ y) (h3 : y < p) : CMulX x y := cmulx (res_lt h h0 h1) (res_lt h h2 h3) (by decide)

/-! ### powers -/
theorem pw_step {p : Nat} (h : Pr p) (k : Int × Int × Int → Res Int) (n : Nat) (r s : Int) (e : Nat) (r0 : 0 ≤ r) (r1 : r < p) (s0 : 0 ≤ s) (s1 : s < p) : m_power_w1 (p : Int) k (n + 1) (r, s, (e : Int)) = if e = 0 then k (r, s, 0) else m_power_w1 (p : Int) k n (if e % 2 = 1 then r * s % p else r, s * s % p, ((e / 2 : Nat) : Int)) := by
  have hp := h.pos
  have e2 : ((e / 2 : Nat) : Int) = (e : Int) / 2 ^ (1 : Int).toNat := by show _ = (e : Int) / 2; omega
  rw [m_power_w1]
  simp only [Res.bind_ok, cond_dec, bit1]
  by_cases he : e = 0
  · subst he; rfl
  · rw [if_pos (by omega), if_neg he]
    unfold m_power_k2
    simp only [Res.bind_ok, need_bind, Res.need_pos hp, Res.need_pos (mul_res h s0 s1 s0 s1), Res.need_pos (mul_res h r0 r1 s0 s1), e2]
    by_cases ho : e % 2 = 1
    · rw [if_pos (by omega), if_pos ho]
    · rw [if_neg (by omega), if_neg ho]
theorem pw_loop {p : Nat} (h : Pr p) (k : Int × Int × Int → Res Int) : ∀ (fuel : Nat) (r s : Int) (e : Nat), 0 ≤ r → r < p → 0 ≤ s → s < p → e < fuel → ∃ s', m_power_w1 (p : Int) k fuel (r, s, (e : Int)) = k (r * s ^ e % p, s', 0) := by
  have hp := h.pos
  intro fuel
  induction fuel with
  | zero => intro r s e _ _ _ _ he; omega
  | succ n ih =>
    intro r s e r0 r1 s0 s1 he
    rw [pw_step h k n r s e r0 r1 s0 s1]
    by_cases hz : e = 0
    · subst hz
      exact ⟨s, by rw [if_pos rfl, Int.pow_zero, Int.mul_one, Int.emod_eq_of_lt r0 r1]⟩
    · rw [if_neg hz]
      have t0 := Int.emod_nonneg (s * s) (show (p : Int) ≠ 0 by omega)
      have t1 := Int.emod_lt_of_pos (s * s) hp
      have u0 := Int.emod_nonneg (r * s) (show (p : Int) ≠ 0 by omega)
      have u1 := Int.emod_lt_of_pos (r * s) hp
      obtain ⟨s', q⟩ := ih (if e % 2 = 1 then r * s % p else r) (s * s % p) (e / 2) (by split <;> assumption) (by split <;> assumption) t0 t1 (by omega)
      refine ⟨s', ?_⟩
      rw [q]
      have a1 : (s * s % p) ^ (e / 2) % p = (s * s) ^ (e / 2) % p := em_pow (em_em _ _) _
      have a2 : s ^ e = s ^ (e % 2) * (s * s) ^ (e / 2) := by
        rw [← ipow2 s, ← Int.pow_mul, ← Int.pow_add, Nat.mod_add_div]
      congr 2
      rw [a2, ← Int.mul_assoc]
      refine em_mul ?_ a1
      rcases (by omega : e % 2 = 0 ∨ e % 2 = 1) with z | z
      · rw [z, if_neg (by decide), Int.pow_zero, Int.mul_one]
      · rw [z, if_pos rfl, Int.pow_one, em_em]
theorem power_ok {p : Nat} (h : Pr p) (a : Int) (e : Nat) : m_power a (e : Int) (p : Int) = .ok (a ^ e % p) := by
  have hp := h.pos
  have h3 := h.ge
  unfold m_power
  simp only [Res.bind_ok, Res.need_pos hp]
  obtain ⟨s', q⟩ := pw_loop h m_power_k3 ((e : Int).toNat + 1) (1 % p) (a % p) e (Int.emod_nonneg _ (by omega)) (Int.emod_lt_of_pos _ hp) (Int.emod_nonneg _ (by omega)) (Int.emod_lt_of_pos _ hp) (by omega)
  rw [q]
  show Res.ok _ = _
  congr 1
  rw [em_mul (em_em 1 p) (em_pow (em_em a p) e), Int.one_mul]
abbrev hf (p : Nat) : Nat := (p - 1) / 2
theorem class_ok {p : Nat} (h : Pr p) (a : Int) : m_square_class a (p : Int) = .ok (if a % p = 0 then 0 else if a ^ hf p % p = 1 then 1 else -1) := by
  have hp := h.pos
  have h3 := h.ge
  have e : ((p : Int) - 1) / 2 = ((hf p : Nat) : Int) := by unfold hf; omega
  unfold m_square_class
  simp only [Res.bind_ok, Res.need_pos hp, e, power_ok h, cond_dec]
  by_cases h0 : a % p = 0
  · rw [if_pos h0, if_pos h0]
  · rw [if_neg h0, if_neg h0]
    by_cases h1 : a ^ hf p % p = 1
    · rw [if_pos h1, if_pos h1]
    · rw [if_neg h1, if_neg h1]
theorem bits_pow (t : Nat) : Builtin.Int.intBits (2 ^ t : Int) = t + 1 := by
  have hp : (0 : Int) < 2 ^ t := Int.pow_pos (by decide)
  unfold Builtin.Int.intBits
  rw [if_neg (by simp; omega)]
  have : (2 ^ t : Int).natAbs = 2 ^ t := by rw [Int.natAbs_pow]; rfl
  rw [this, Nat.log2_two_pow]
/-! ### the root -/
theorem pow_dbl (x : Int) (k : Nat) : x ^ 2 ^ (k + 1) = (x * x) ^ 2 ^ k := by
  rw [Nat.pow_succ, Nat.mul_comm, Int.pow_mul, ipow2]
theorem no_zero {p : Nat} (h : Pr p) {r a : Int} (hr : r * r % p = a % p) (ha : a % p ≠ 0) : r ≠ 0 := fun z => by
  subst z
  rw [Int.zero_mul, Int.zero_emod] at hr
  exact ha hr.symm
theorem number_loop (k : Int × Int → Res Int) (l : List Int) : ∀ (j : Nat) (s n : Int), 0 ≤ n → n.natAbs < 2 ^ (31 * j) → j + l.length ≤ 1000 → ∃ s' n', m_u_law_number_l3 k l (s, n) = k (s', n') ∧ 0 ≤ n' ∧ n'.natAbs < 2 ^ (31 * (j + l.length)) := by
  induction l with
  | nil => intro j s n h0 h1 h2; exact ⟨s, n, rfl, h0, by simpa using h1⟩
  | cons x r ih =>
    intro j s n h0 h1 h2
    rw [m_u_law_number_l3]
    simp only [Res.bind_ok, need_bind, pow31]
    rw [List.length_cons] at h2
    rw [need_mulx h1 m31_lt (by omega)]
    have q := ih (j + 1) ((s * 48271 + 11) % 2147483647) (n * 2147483648 + (s * 48271 + 11) % 2147483647) (by omega) (by
      have e2 : (2 : Nat) ^ (31 * (j + 1)) = 2 ^ (31 * j) * 2147483648 := by rw [Nat.mul_add, Nat.pow_add]
      have g2 : (n * 2147483648 + (s * 48271 + 11) % 2147483647).natAbs = n.natAbs * 2147483648 + ((s * 48271 + 11) % 2147483647).natAbs := by omega
      rw [g2, e2]
      have g3 : ((s * 48271 + 11) % 2147483647).natAbs < 2147483648 := by omega
      have g4 : n.natAbs + 1 ≤ 2 ^ (31 * j) := h1
      generalize 2 ^ (31 * j) = P at *
      omega) (by omega)
    obtain ⟨s', n', q1, q2, q3⟩ := q
    exact ⟨s', n', q1, q2, by rw [List.length_cons, show j + (r.length + 1) = j + 1 + r.length by omega]; exact q3⟩
theorem number_ok {B : Nat} (hB : 300 ≤ B) (c salt : Int) (hc : c.natAbs < 2 ^ B) : ∃ n, m_u_law_number c salt = .ok n ∧ n.natAbs < 2 ^ B := by
  unfold m_u_law_number
  simp only [Res.bind_ok, need_bind, cond_dec, pow18]
  by_cases h1 : 1000000000000000000 ≤ (c.natAbs : Int)
  · rw [if_pos h1]; exact ⟨c, rfl, hc⟩
  rw [if_neg h1]
  by_cases h2 : (c.natAbs : Int) % 4 = 1
  · rw [if_pos h2]
    refine ⟨_, rfl, ?_⟩
    have : 2 ^ 40 ≤ (2 : Nat) ^ B := Nat.pow_le_pow_right (by decide) (by omega)
    have : ((c.natAbs : Int) / 4 % 100 - 50).natAbs < 2 ^ 40 := by
      have : (2 : Nat) ^ 40 = 1099511627776 := by decide
      omega
    omega
  rw [if_neg h2]
  have hr : okRange (1 + (c.natAbs : Int) % 9) := ⟨by omega, by omega⟩
  rw [Res.need_pos hr]
  have hlen : (pyRange 0 (1 + (c.natAbs : Int) % 9)).length ≤ 9 := by rw [pyRange_len]; omega
  obtain ⟨s', n', q1, q2, q3⟩ := number_loop (m_u_law_number_k5 (c.natAbs : Int)) (pyRange 0 (1 + (c.natAbs : Int) % 9)) 0 ((c.natAbs : Int) + salt * 7919) 0 (by omega) (by simp) (by omega)
  rw [q1]
  have hb : n'.natAbs < 2 ^ B := Nat.lt_of_lt_of_le q3 (Nat.pow_le_pow_right (by decide) (by omega))
  simp only [m_u_law_number_k5, Res.bind_ok, cond_dec]
  by_cases h3 : (c.natAbs : Int) % 4 = 2
  · rw [if_pos h3]; exact ⟨-n', rfl, by rw [Int.natAbs_neg]; exact hb⟩
  · rw [if_neg h3]; exact ⟨n', rfl, hb⟩


/-! ### powers and inverses, the law's own -/
theorem Pr.pb {p : Nat} (h : Pr p) : Pb p := ⟨by have := h.ge; omega, h.lt⟩
/-! ### a curve through two points -/
def Rs (p : Nat) (x : Int) : Prop := 0 ≤ x ∧ x < p
def On (p : Nat) (a b x y : Int) : Prop := (y * y - x * x * x - a * x - b) % (p : Int) = 0
instance (p : Nat) (a b x y : Int) : Decidable (On p a b x y) := inferInstanceAs (Decidable (_ = _))
theorem Rs.bd {p : Nat} [P : Pb p] {x : Int} (h : Rs p x) : Bd x 256 := ⟨by
  have := P.lt; have := h.1; have := h.2; omega⟩
theorem rs_mod {p : Nat} [P : Pb p] (x : Int) : Rs p (x % p) := ⟨Int.emod_nonneg _ (by have := P.pos; omega), Int.emod_lt_of_pos _ (by have := P.pos; omega)⟩
theorem on_z {p : Nat} {a b x y : Int} : On p a b x y ↔ zm p y * zm p y = zm p x * zm p x * zm p x + zm p a * zm p x + zm p b := by
  unfold On
  rw [← zm_zero]
  simp only [zm_sub, zm_mul]
  constructor <;> intro h <;> grind
theorem linv_z {p : Nat} (h : Pr p) (x : Int) (hx : zm p x ≠ 0) : zm p (x ^ (p - 2) % p) * zm p x = 1 := by
  rw [zm_mod, zm_pow]; exact z_inv h.pr hx
theorem zm_ne_of {p : Nat} {x y : Int} (hx : Rs p x) (hy : Rs p y) (h : x ≠ y) : zm p (x - y) ≠ 0 := fun e => h (res_eq hx.1 hx.2 hy.1 hy.2 (by
  rw [zm_sub] at e; grind))
/-! ### the greatest common divisor -/
theorem cof (p q X Y V M : Nat) (hq : 0 < q) (h : Y * p + X * q ≤ M) (hV : V ≤ X + p / q * Y) : V * q + Y * (p % q) ≤ M ∧ V ≤ M ∧ p / q * Y ≤ M := by
  have e : q * (p / q) + p % q = p := Nat.div_add_mod p q
  generalize p / q = t at *
  generalize p % q = r at *
  subst e
  have a1 : V * q ≤ (X + t * Y) * q := Nat.mul_le_mul_right q hV
  have a2 : (X + t * Y) * q = X * q + Y * (q * t) := by rw [Nat.add_mul]; congr 1; ac_rfl
  have a3 : Y * (q * t + r) = Y * (q * t) + Y * r := Nat.mul_add ..
  have a4 : V ≤ V * q := Nat.le_mul_of_pos_right _ hq
  have a5 : Y * (q * t) = q * (t * Y) := by ac_rfl
  have a6 : t * Y ≤ q * (t * Y) := Nat.le_mul_of_pos_left _ hq
  omega
theorem bez_step (k : (T3 Int Int Int) × (T3 Int Int Int) → Res (T3 Int Int Int)) (n : Nat) (f s : T3 Int Int Int) : m_bezout_w1 k (n + 1) (f, s) = if s.a = 0 then k (f, s) else Res.need (CDivW f.a s.a) (Res.need (CMulX (f.a / s.a) s.a) (Res.need (CMulX (f.a / s.a) s.b) (Res.need (CMulX (f.a / s.a) s.c) (m_bezout_w1 k n (s, T3.mk (f.a - f.a / s.a * s.a) (f.b - f.a / s.a * s.b) (f.c - f.a / s.a * s.c)))))) := by
  rw [m_bezout_w1]
  simp only [Res.bind_ok, need_bind, cond_not, cond_dec]
theorem natAbs_sub_mul (u t v : Int) : (u - t * v).natAbs ≤ u.natAbs + t.natAbs * v.natAbs := by
  rw [← Int.natAbs_mul]; omega
theorem gcd_step {p q : Int} : Int.gcd q (p - p / q * q) = Int.gcd p q := by
  rw [Int.mul_comm, Int.gcd_sub_mul_left_right, Int.gcd_comm]
theorem bez_loop {a b : Int} {M B : Nat} (hM : M < 2 ^ B) (hB0 : 0 < B) (hB : B ≤ 8000) (k : (T3 Int Int Int) × (T3 Int Int Int) → Res (T3 Int Int Int)) : ∀ (fuel : Nat) (f s : T3 Int Int Int), 0 ≤ f.a → 0 ≤ s.a → s.a < fuel → f.a.natAbs ≤ M → s.a.natAbs ≤ M → f.b.natAbs ≤ M → s.b.natAbs ≤ M → f.c.natAbs ≤ M → s.c.natAbs ≤ M →
    s.b.natAbs * f.a.natAbs + f.b.natAbs * s.a.natAbs ≤ M → s.c.natAbs * f.a.natAbs + f.c.natAbs * s.a.natAbs ≤ M → f.a = a * f.b + b * f.c → s.a = a * s.b + b * s.c →
    ∃ g s', m_bezout_w1 k fuel (f, s) = k (g, s') ∧ g.a = (Int.gcd f.a s.a : Int) ∧ g.a = a * g.b + b * g.c := by
  intro fuel
  induction fuel with
  | zero => intro f s h0 h1 h2; omega
  | succ n ih =>
    intro f s h0 h1 h2 h3 h4 h5 h6 h7 h8 h9 h10 h11 h12
    rw [bez_step]
    by_cases hs : s.a = 0
    · rw [if_pos hs]
      exact ⟨f, s, rfl, by rw [hs, Int.gcd_zero_right]; omega, h11⟩
    · rw [if_neg hs]
      have hp : 0 < s.a := by omega
      have ht : (f.a / s.a).natAbs = f.a.natAbs / s.a.natAbs := by
        rw [Int.natAbs_ediv_of_nonneg h0]
      have hr : f.a - f.a / s.a * s.a = f.a % s.a := by
        have := Int.emod_add_mul_ediv f.a s.a
        rw [Int.mul_comm (f.a / s.a)]; omega
      have hrn : (f.a % s.a).natAbs = f.a.natAbs % s.a.natAbs := by
        rw [Int.natAbs_emod_of_nonneg h0]
      have hq : 0 < s.a.natAbs := by omega
      have c1 := cof f.a.natAbs s.a.natAbs f.b.natAbs s.b.natAbs (f.b - f.a / s.a * s.b).natAbs M hq h9 (by rw [← ht]; exact natAbs_sub_mul ..)
      have c2 := cof f.a.natAbs s.a.natAbs f.c.natAbs s.c.natAbs (f.c - f.a / s.a * s.c).natAbs M hq h10 (by rw [← ht]; exact natAbs_sub_mul ..)
      have ht2 : (f.a / s.a).natAbs ≤ M := by rw [ht]; exact Nat.le_trans (Nat.div_le_self ..) h3
      have lt := fun {x : Int} (h : x.natAbs ≤ M) => (show x.natAbs < 2 ^ B by omega)
      rw [Res.need_pos (wide_div hp (lt h4) hB0 (by omega)), need_mulx (lt ht2) (lt h4) (by omega), need_mulx (lt ht2) (lt h6) (by omega), need_mulx (lt ht2) (lt h8) (by omega)]
      have e0 := Int.emod_nonneg f.a (show s.a ≠ 0 by omega)
      have e1 := Int.emod_lt_of_pos f.a hp
      obtain ⟨g, s', q1, q2, q3⟩ := ih s (T3.mk (f.a - f.a / s.a * s.a) (f.b - f.a / s.a * s.b) (f.c - f.a / s.a * s.c)) h1 (by show 0 ≤ f.a - f.a / s.a * s.a; rw [hr]; exact e0) (by show f.a - f.a / s.a * s.a < _; rw [hr]; omega) h4 (by show (f.a - f.a / s.a * s.a).natAbs ≤ M; rw [hr]; omega) h6 c1.2.1 h8 c2.2.1
        (by show (f.b - f.a / s.a * s.b).natAbs * s.a.natAbs + s.b.natAbs * (f.a - f.a / s.a * s.a).natAbs ≤ M; rw [hr, hrn]; exact c1.1)
        (by show (f.c - f.a / s.a * s.c).natAbs * s.a.natAbs + s.c.natAbs * (f.a - f.a / s.a * s.a).natAbs ≤ M; rw [hr, hrn]; exact c2.1)
        h12 (by
          show f.a - f.a / s.a * s.a = a * (f.b - f.a / s.a * s.b) + b * (f.c - f.a / s.a * s.c)
          generalize f.a / s.a = t
          rw [h11, h12]; grind)
      exact ⟨g, s', q1, by rw [q2]; show ((Int.gcd s.a (f.a - f.a / s.a * s.a) : Nat) : Int) = _; rw [gcd_step], q3⟩
theorem inv_ok {a m : Int} {B : Nat} (hm : 0 < m) (hb : m.natAbs < 2 ^ B) (hB : B ≤ 8000) : (Int.gcd a m = 1 → ∃ i, m_inverse a m = .ok i ∧ 0 ≤ i ∧ i < m ∧ m ∣ a * i - 1) ∧ (Int.gcd a m ≠ 1 → m_inverse a m = .exc "NoInverse") := by
  have e0 := Int.emod_nonneg a (show m ≠ 0 by omega)
  have e1 := Int.emod_lt_of_pos a hm
  have hB0 : 0 < B := by
    rcases Nat.eq_zero_or_pos B with z | z
    · subst z; simp at hb; omega
    · exact z
  obtain ⟨g, s', q1, q2, q3⟩ := bez_loop (a := a % m) (b := m) (M := m.natAbs) hb hB0 hB m_bezout_k3 (m.natAbs + 1) (T3.mk (a % m) 1 0) (T3.mk m 0 1) e0 (by show 0 ≤ m; omega) (by show m < _; omega) (by show (a % m).natAbs ≤ _; omega) (by show m.natAbs ≤ _; omega) (by show 1 ≤ _; omega) (by show 0 ≤ _; omega) (by show 0 ≤ _; omega) (by show 1 ≤ _; omega)
    (by show 0 * (a % m).natAbs + 1 * m.natAbs ≤ _; omega) (by show 1 * (a % m).natAbs + 0 * m.natAbs ≤ _; omega) (by show a % m = a % m * 1 + m * 0; omega) (by show m = a % m * 0 + m * 1; omega)
  have q2 : g.a = (Int.gcd (a % m) m : Int) := q2
  have eg : Int.gcd (a % m) m = Int.gcd a m := by
    have : a % m = a - m * (a / m) := by have := Int.emod_add_mul_ediv a m; omega
    rw [this, Int.gcd_comm, Int.gcd_sub_mul_left_right, Int.gcd_comm]
  rw [eg] at q2
  have hbz : m_bezout (a % m) m = .ok g := by
    unfold m_bezout
    simp only [Res.bind_ok]
    rw [q1]
    unfold m_bezout_k3
    simp only [Res.bind_ok, cond_dec]
    rw [if_neg (by omega)]
  clear q1
  unfold m_inverse
  simp only [Res.bind_ok, need_bind, cond_not, cond_dec, Res.need_pos hm, hbz]
  constructor
  · intro h1
    rw [if_pos (by omega)]
    refine ⟨_, rfl, Int.emod_nonneg _ (by omega), Int.emod_lt_of_pos _ hm, ?_⟩
    have h2 : a % m * g.b + m * g.c = 1 := by omega
    have h3 := Int.emod_add_mul_ediv a m
    have h4 := Int.emod_add_mul_ediv g.b m
    generalize a % m = r at *
    generalize a / m = t at *
    generalize g.b % m = u at *
    generalize g.b / m = v at *
    refine ⟨t * u - r * v - g.c, ?_⟩
    rw [← h3]
    have h5 : u = g.b - m * v := by omega
    rw [h5]
    grind
  · intro h1
    rw [if_neg (by omega)]
/-! ### the inverse modulo a prime -/
theorem pinv {p : Nat} (h : Pr p) (a : Int) (ha : zm p a ≠ 0) : ∃ i, m_inverse a (p : Int) = .ok i ∧ Rs p i ∧ zm p i * zm p a = 1 := by
  have hp := h.pos
  have hg : Int.gcd a (p : Int) = 1 := by
    have : Nat.Coprime p a.natAbs := h.pr.cop fun d => ha (zm_dvd.mpr (Int.ofNat_dvd_left.mpr d))
    show Nat.gcd a.natAbs p = 1
    rw [Nat.gcd_comm]; exact this
  obtain ⟨i, e, i0, i1, i2⟩ := (inv_ok (a := a) (m := p) (B := 256) hp (by rw [Int.natAbs_natCast]; exact h.lt) (by decide)).1 hg
  refine ⟨i, e, ⟨i0, i1⟩, ?_⟩
  have := zm_dvd.mpr i2
  rw [zm_sub, zm_mul] at this
  have t : zm p 1 = 1 := rfl
  rw [t] at this
  grind
theorem pinv_f {p : Nat} [Prm p] (h : Pr p) (a : Int) (ha : zm p a ≠ 0) : ∃ i, m_inverse a (p : Int) = .ok i ∧ Rs p i ∧ zm p i = (zm p a)⁻¹ := by
  obtain ⟨i, e, r, q⟩ := pinv h a ha
  refine ⟨i, e, r, ?_⟩
  have := z_mul_inv ha
  grind

theorem isres_int (i m : Int) : m_is_residue (D.int i) m = .ok (decide (0 ≤ i ∧ i < m)) := by
  have e1 : (toD (D.int i)).plain = true := rfl
  have e2 : isI "int" (toD (D.int i)) = true := rfl
  have e3 : isI "bool" (toD (D.int i)) = false := rfl
  have ai : D.asInt (D.int i) = .ok i := rfl
  unfold m_is_residue m_is_whole
  simp only [Res.bind_ok, Res.need_pos e1, e2, e3, cond_true, Bool.not_false, ai]
  by_cases h0 : 0 ≤ i <;> by_cases h1 : i < m <;> simp [h0, h1, Res.bind_ok]
theorem isres_bl (b : Bool) (m : Int) : m_is_residue (D.bl b) m = .ok false := by
  have e1 : (toD (D.bl b)).plain = true := rfl
  have e2 : isI "int" (toD (D.bl b)) = true := rfl
  have e3 : isI "bool" (toD (D.bl b)) = true := rfl
  unfold m_is_residue m_is_whole
  simp only [Res.bind_ok, Res.need_pos e1, e2, e3, cond_true, Bool.not_true, cond_false]
theorem pair_two {x y : D} {m : Int} {u v : Bool} (hx : m_is_residue x m = .ok u) (hy : m_is_residue y m = .ok v) : m_is_residue_pair (D.tup [x, y]) m = .ok (u && v) := by
  have e1 : (toD (D.tup [x, y])).plain = true := rfl
  have e2 : isI "tuple" (toD (D.tup [x, y])) = true := rfl
  have e3 : D.lenR (D.tup [x, y]) = .ok 2 := rfl
  have e4 : D.asTu (D.tup [x, y]) = .ok ⟨[x, y]⟩ := rfl
  unfold m_is_residue_pair
  simp only [Res.bind_ok, Res.need_pos e1, e2, e3, e4, cond_true, cond_dec, if_pos, need_bind]
  rw [Res.need_pos (show [x, y].length ≤ 16777216 by show 2 ≤ 16777216; decide)]
  simp only [compL, Res.bind_ok, hx, hy, Res.noexc, cond_true, List.all_cons, List.all_nil, id, Bool.and_true]
theorem pair_no {x : D} {m : Int} (hp : x.plain = true) (h : isI "tuple" x = false) : m_is_residue_pair x m = .ok false := by
  unfold m_is_residue_pair
  simp only [Res.bind_ok, toD_D, Res.need_pos hp, h, cond_false]
theorem pair_len {xs : List D} {m : Int} (h : xs.length ≠ 2) : m_is_residue_pair (D.tup xs) m = .ok false := by
  have e1 : (toD (D.tup xs)).plain = true := rfl
  have e2 : isI "tuple" (toD (D.tup xs)) = true := rfl
  have e3 : D.lenR (D.tup xs) = .ok (xs.length : Int) := rfl
  unfold m_is_residue_pair
  simp only [Res.bind_ok, Res.need_pos e1, e2, e3, cond_true, cond_dec]
  rw [if_neg (by omega)]
theorem side_ok {p : Nat} [Pb p] {a b x : Int} [Bd a 256] [Bd x 256] : m_Curve_u_right_side ⟨p, a, b⟩ x = .ok ((x ^ 3 + a * x + b) % p) := by
  unfold m_Curve_u_right_side
  simp (decide := true) only [Res.bind_ok, need_bind, need_bd, need_p, need_pw3, tn3]
theorem has_pair {p : Nat} [Pb p] {a b x y : Int} (ha : Rs p a) (hx : Rs p x) (hy : Rs p y) : m_Curve_has ⟨p, a, b⟩ (D.tup [D.int x, D.int y]) = .ok (decide (On p a b x y)) := by
  have := ha.bd
  have := hx.bd
  have := hy.bd
  have e0 : (toD (D.tup [D.int x, D.int y])).isNon = false := rfl
  have e4 : D.asTu (D.tup [D.int x, D.int y]) = .ok ⟨[D.int x, D.int y]⟩ := rfl
  have i0 : idx [D.int x, D.int y] (0 : Int) = .ok (D.int x) := rfl
  have i1 : idx [D.int x, D.int y] (1 : Int) = .ok (D.int y) := rfl
  have ai : ∀ i, D.asInt (D.int i) = .ok i := fun _ => rfl
  have px := pair_two (isres_int x p) (isres_int y p)
  rw [decide_eq_true (show 0 ≤ x ∧ x < p from hx), decide_eq_true (show 0 ≤ y ∧ y < p from hy)] at px
  unfold m_Curve_has
  simp (decide := true) only [Res.bind_ok, e0, cond_false, px, Bool.and_true, Bool.not_true, e4, i0, i1, ai, side_ok, need_bind, need_bd, need_p, need_pw2, tn2]
  congr 1
  refine decide_eq_decide.mpr ?_
  rw [on_z, ← zm_zero]
  simp only [zm_sub, zm_mod, zm_add, zm_mul, zm_pow]
  constructor <;> intro h <;> grind
theorem has_no {p : Nat} {a b : Int} {x : D} (h : m_is_residue_pair x p = .ok false) (hn : x.isNon = false) : m_Curve_has ⟨p, a, b⟩ x = .ok false := by
  unfold m_Curve_has
  simp only [Res.bind_ok, toD_D, hn, cond_false, h, Bool.not_false, cond_true]
theorem init_ok {p : Nat} (h : Pr p) (h5 : 5 ≤ p) (a b : Int) : m_Curve_init (p : Int) a b = if (4 * (a % p) ^ 3 + 27 * (b % p) ^ 2) % (p : Int) = 0 then .exc "Refused" else .ok ⟨p, a % p, b % p⟩ := by
  have P := h.pb
  have ho := h.odd
  have c1 : decide ((p : Int) < 5) = false := decide_eq_false (by omega)
  have c2 : decide ((p : Int) % 2 = 0) = false := decide_eq_false (by omega)
  unfold m_Curve_init
  simp (decide := true) only [Res.bind_ok, c1, c2, cond_false, need_bind, need_p, need_pw3, need_pw2, tn3, tn2, cond_dec]
theorem init_bad {m : Int} (h : m < 5 ∨ m % 2 = 0) (a b : Int) : m_Curve_init m a b = .exc "OutOfRange" := by
  unfold m_Curve_init
  simp only [Res.bind_ok]
  by_cases c : m < 5
  · simp only [decide_eq_true c, cond_true, Res.bind_ok]
  · simp only [decide_eq_false c, cond_false, Res.bind_ok, decide_eq_true (h.resolve_left c), cond_true]
theorem neg_some {p : Nat} [Pb p] {a b x y : Int} : m_Curve_negate ⟨p, a, b⟩ (some (T2.mk x y)) = .ok (some (T2.mk x (-y % p))) := by
  have o1 : (toD (some (T2.mk x y))).isNon = false := rfl
  have og : optGet (some (T2.mk x y)) = .ok (T2.mk x y) := rfl
  unfold m_Curve_negate
  simp only [Res.bind_ok, o1, cond_false, og, need_bind, need_p]
theorem on_neg {p : Nat} {a b x y : Int} (h : On p a b x y) : On p a b x (-y % p) := by
  rw [on_z] at h ⊢
  rw [zm_mod, zm_neg]; grind
/-! ### points as the program keeps them -/
class CvP (C : Cv) : Prop where
  pr : Pr C.p
instance (C : Cv) [h : CvP C] : Pb C.p := h.pr.pb
abbrev P2 := Option (T2 Int Int)
def lfv {p : Nat} : Mi.Pt (Zp p) → P2
  | none => none
  | some (x, y) => some (T2.mk (zv x) (zv y))
def lf {C : Cv} (P : C.Pt) : P2 := lfv P.v
abbrev Cv.o (C : Cv) : O_Curve := ⟨C.p, C.a, C.b⟩
theorem lfv_inj {p : Nat} {P Q : Mi.Pt (Zp p)} (h : lfv P = lfv Q) : P = Q := by
  cases P with
  | none => cases Q with
    | none => rfl
    | some q => cases h
  | some r => cases Q with
    | none => cases h
    | some q =>
      obtain ⟨x1, y1⟩ := r
      obtain ⟨x2, y2⟩ := q
      have h := Option.some.inj h
      rw [zv_inj (congrArg T2.a h), zv_inj (congrArg T2.b h)]
section
variable {C : Cv}
theorem lf_inj {P Q : C.Pt} (h : lf P = lf Q) : P = Q := Cv.ext (lfv_inj h)
theorem lf_zero : lf (0 : C.Pt) = none := rfl
theorem lf_none {P : C.Pt} (h : lf P = none) : P = 0 := lf_inj h
theorem toD_some2 (x y : Int) : toD (some (T2.mk x y)) = D.tup [D.int x, D.int y] := rfl
theorem toD_T2 (x y : Int) : toD (T2.mk x y) = D.tup [D.int x, D.int y] := rfl
theorem toD_none2 : toD (none : P2) = D.non := rfl
theorem okq_p2 (P : P2) : (toD P).okq = true := by
  cases P with
  | none => rfl
  | some q => obtain ⟨x, y⟩ := q; rfl
theorem okq_t2 (q : T2 Int Int) : (toD q).okq = true := by obtain ⟨x, y⟩ := q; rfl
theorem nob_p2 (P : P2) : (toD P).nob = true := by
  cases P with
  | none => rfl
  | some q => obtain ⟨x, y⟩ := q; rfl
theorem toD_p2_inj {P Q : P2} (h : toD P = toD Q) : P = Q := by
  cases P with
  | none => cases Q with
    | none => rfl
    | some q => obtain ⟨x, y⟩ := q; rw [toD_none2, toD_some2] at h; cases h
  | some r => cases Q with
    | none => obtain ⟨x, y⟩ := r; rw [toD_none2, toD_some2] at h; cases h
    | some q =>
      obtain ⟨x1, y1⟩ := r
      obtain ⟨x2, y2⟩ := q
      rw [toD_some2, toD_some2] at h
      simp only [D.tup.injEq, List.cons.injEq, D.int.injEq, and_true] at h
      rw [h.1, h.2]
theorem pyEq_p2 (P Q : P2) : pyEq (toD P) (toD Q) = true ↔ P = Q := (pyEq_dec (nob_p2 P) (nob_p2 Q)).trans ⟨toD_p2_inj, fun h => by rw [h]⟩
noncomputable instance : DecidableEq C.Pt := fun a b => Classical.propDecidable _
theorem pyEq_lf (P Q : C.Pt) : pyEq (toD (lf P)) (toD (lf Q)) = decide (P = Q) := by
  by_cases h : P = Q
  · rw [decide_eq_true h, h]; exact (pyEq_p2 _ _).mpr rfl
  · rw [decide_eq_false h]
    cases e : pyEq (toD (lf P)) (toD (lf Q)) with
    | false => rfl
    | true => exact absurd (lf_inj ((pyEq_p2 _ _).mp e)) h
theorem pyEq_t2 (P Q : T2 Int Int) : pyEq (toD P) (toD Q) = true ↔ P = Q := (pyEq_p2 (some P) (some Q)).trans ⟨Option.some.inj, fun h => by rw [h]⟩
theorem isNon_lf0 : (toD (lf (0 : C.Pt))).isNon = true := rfl
theorem isNon_lf {P : C.Pt} (h : P ≠ 0) : (toD (lf P)).isNon = false := by
  cases e : lf P with
  | none => exact absurd (lf_none e) h
  | some q => obtain ⟨x, y⟩ := q; rfl
/-- the coordinates of a point -/
theorem lf_some {P : C.Pt} {x y : Int} (h : lf P = some (T2.mk x y)) : Rs C.p x ∧ Rs C.p y ∧ On C.p C.a C.b x y ∧ P.v = some (zm C.p x, zm C.p y) := by
  obtain ⟨v, on⟩ := P
  cases v with
  | none => cases h
  | some q =>
    obtain ⟨u, w⟩ := q
    have h : T2.mk (zv u) (zv w) = T2.mk x y := Option.some.inj h
    have hx : zv u = x := congrArg T2.a h
    have hy : zv w = y := congrArg T2.b h
    subst hx hy
    refine ⟨⟨zv_ge u, zv_lt u⟩, ⟨zv_ge w, zv_lt w⟩, ?_, ?_⟩
    · rw [on_z, zm_zv, zm_zv]; exact on
    · show some (u, w) = some (_, _)
      rw [zm_zv, zm_zv]
theorem lf_ex {x y : Int} (hx : Rs C.p x) (hy : Rs C.p y) (ho : On C.p C.a C.b x y) : ∃ P : C.Pt, lf P = some (T2.mk x y) ∧ P.v = some (zm C.p x, zm C.p y) :=
  ⟨⟨some (zm C.p x, zm C.p y), on_z.mp ho⟩, by
    show some (T2.mk (zv (zm C.p x)) (zv (zm C.p y))) = _
    rw [zv_of hx.1 hx.2, zv_of hy.1 hy.2], rfl⟩
theorem Cv.A (C : Cv) : Rs C.p C.a := ⟨C.a0, C.a1⟩
theorem Cv.B (C : Cv) : Rs C.p C.b := ⟨C.b0, C.b1⟩
theorem lf_neg {P : C.Pt} {x y : Int} (h : lf P = some (T2.mk x y)) : lf (-P) = some (T2.mk x (-y % C.p)) := by
  obtain ⟨hx, hy, ho, hv⟩ := lf_some h
  have : (-P).v = some (zm C.p x, -zm C.p y) := by
    show pneg P.v = _
    rw [hv]; rfl
  show lfv (-P).v = _
  rw [this]
  show some (T2.mk (zv (zm C.p x)) (zv (-zm C.p y))) = _
  rw [zv_of hx.1 hx.2, ← zm_neg, zv_zm]
theorem neg_ok [CvP C] (P : C.Pt) : m_Curve_negate C.o (lf P) = .ok (lf (-P)) := by
  cases e : lf P with
  | none =>
    rw [lf_none e, g_neg_zero]
    rfl
  | some q =>
    obtain ⟨x, y⟩ := q
    rw [neg_some, lf_neg e]
def IsSl (C : Cv) (x1 y1 x2 y2 s : Int) : Prop := (zm C.p x1 = zm C.p x2 → zm C.p s = (3 * zm C.p x1 * zm C.p x1 + zm C.p C.a) * (2 * zm C.p y1)⁻¹) ∧ (zm C.p x1 ≠ zm C.p x2 → zm C.p s = (zm C.p y2 - zm C.p y1) * (zm C.p x2 - zm C.p x1)⁻¹)
/-- the sum by its coordinates -/
theorem lf_add {P Q : C.Pt} {x1 y1 x2 y2 s : Int} (h1 : lf P = some (T2.mk x1 y1)) (h2 : lf Q = some (T2.mk x2 y2)) (hn : Q ≠ -P)
    (hs : IsSl C x1 y1 x2 y2 s) :
    lf (P + Q) = some (T2.mk ((s * s - x1 - x2) % C.p) ((s * (x1 - (s * s - x1 - x2) % C.p) - y1) % C.p)) := by
  obtain ⟨X1, Y1, O1, v1⟩ := lf_some h1
  obtain ⟨X2, Y2, O2, v2⟩ := lf_some h2
  have e : (P + Q).v = padd (zm C.p C.a) P.v Q.v := rfl
  rw [v1, v2, padd_eq, if_neg] at e
  · dsimp only at e
    have hs2 : zm C.p s = @ite _ (zm C.p x1 = zm C.p x2) (Classical.propDecidable _) ((3 * zm C.p x1 * zm C.p x1 + zm C.p C.a) * (2 * zm C.p y1)⁻¹) ((zm C.p y2 - zm C.p y1) * (zm C.p x2 - zm C.p x1)⁻¹) := by
      by_cases c : zm C.p x1 = zm C.p x2
      · rw [if_pos c]; exact hs.1 c
      · rw [if_neg c]; exact hs.2 c
    rw [← hs2] at e
    show lfv (P + Q).v = _
    rw [e]
    show some (T2.mk (zv _) (zv _)) = _
    congr 2
    rw [← zv_zm]
    congr 1
    simp only [zm_sub, zm_mul, zm_mod]
  · rintro ⟨c1, c2⟩
    apply hn
    apply Cv.ext
    show Q.v = pneg P.v
    rw [v1, v2]
    show some (_, _) = some (_, _)
    rw [c1, show zm C.p y2 = -zm C.p y1 by grind]
theorem lf_ne {P Q : C.Pt} {x1 y1 x2 y2 : Int} (h1 : lf P = some (T2.mk x1 y1)) (h2 : lf Q = some (T2.mk x2 y2)) (hn : Q ≠ -P) (hx : x1 = x2) : P = Q ∧ y1 = y2 ∧ zm C.p y1 ≠ 0 := by
  subst hx
  obtain ⟨X1, Y1, O1, v1⟩ := lf_some h1
  obtain ⟨X2, Y2, O2, v2⟩ := lf_some h2
  have o1 := on_z.mp O1
  have o2 := on_z.mp O2
  have d : (zm C.p y1 - zm C.p y2) * (zm C.p y1 + zm C.p y2) = 0 := by grind
  have hneg : zm C.p y1 + zm C.p y2 ≠ 0 := by
    intro c2
    apply hn
    apply Cv.ext
    show Q.v = pneg P.v
    rw [v1, v2]
    show some (_, _) = some (_, _)
    rw [show zm C.p y2 = -zm C.p y1 by grind]
  have e : zm C.p y1 = zm C.p y2 := by
    rcases z_dom C.pr d with q | q
    · grind
    · exact absurd q hneg
  refine ⟨Cv.ext (by rw [v1, v2, e]), res_eq Y1.1 Y1.2 Y2.1 Y2.2 e, fun z => hneg ?_⟩
  rw [← e, z]; grind
theorem slope_ok [hC : CvP C] {P Q : C.Pt} {x1 y1 x2 y2 : Int} (h1 : lf P = some (T2.mk x1 y1)) (h2 : lf Q = some (T2.mk x2 y2)) (hn : Q ≠ -P) :
    ∃ s, m_Curve_u_slope C.o (T2.mk x1 y1) (T2.mk x2 y2) = .ok s ∧ Rs C.p s ∧ IsSl C x1 y1 x2 y2 s := by
  obtain ⟨X1, Y1, O1, v1⟩ := lf_some h1
  obtain ⟨X2, Y2, O2, v2⟩ := lf_some h2
  have := X1.bd
  have := X2.bd
  have := Y1.bd
  have := Y2.bd
  have := (Cv.A C).bd
  have ok0 : (toD (T2.mk x1 y1)).okq = true ∧ (toD (T2.mk x2 y2)).okq = true := ⟨okq_t2 _, okq_t2 _⟩
  have fin : ∀ rise run : Int, Bd rise 600 → zm C.p run ≠ 0 → ∃ s, m_Curve_u_slope_k1 C.o (rise, run) = .ok s ∧ Rs C.p s ∧ zm C.p s = zm C.p rise * (zm C.p run)⁻¹ := by
    intro rise run hb hr
    obtain ⟨i, e, ri, z⟩ := pinv_f hC.pr run hr
    have := ri.bd
    unfold m_Curve_u_slope_k1
    simp (decide := true) only [Res.bind_ok, e, need_bind, need_bd, need_p]
    exact ⟨_, rfl, rs_mod _, by rw [zm_mod, zm_mul, z]⟩
  unfold m_Curve_u_slope
  simp (decide := true) only [Res.bind_ok, Res.need_pos ok0, need_bind, need_pw2, tn2]
  by_cases hx : x1 = x2
  · obtain ⟨e1, e2, e3⟩ := lf_ne h1 h2 hn hx
    subst hx e2
    rw [(pyEq_t2 _ _).mpr rfl, cond_true]
    have hr : zm C.p (2 * y1) ≠ 0 := by rw [zm_mul]; exact z_mul_ne C.pr C.two e3
    obtain ⟨s, a1, a2, a3⟩ := fin (3 * x1 ^ 2 + C.a) (2 * y1) ⟨Bd.up (bd_add (x := 3 * x1 ^ 2) (y := C.a)).lt (by decide)⟩ hr
    refine ⟨s, a1, a2, fun _ => ?_, fun z => absurd rfl z⟩
    rw [a3]
    have t : zm C.p (3 * x1 ^ 2 + C.a) = 3 * zm C.p x1 * zm C.p x1 + zm C.p C.a := by
      rw [ipow2, zm_add, zm_mul, zm_mul]
      show (3 : Zp C.p) * _ + _ = _
      grind
    rw [t]; rfl
  · have hne : zm C.p x1 ≠ zm C.p x2 := fun e => hx (res_eq X1.1 X1.2 X2.1 X2.2 e)
    have hq : pyEq (toD (T2.mk x1 y1)) (toD (T2.mk x2 y2)) = false := by
      cases e : pyEq (toD (T2.mk x1 y1)) (toD (T2.mk x2 y2)) with
      | false => rfl
      | true => exact absurd (congrArg T2.a ((pyEq_t2 _ _).mp e)) hx
    rw [hq, cond_false]
    have hr : zm C.p (x2 - x1) ≠ 0 := by rw [zm_sub]; grind
    obtain ⟨s, a1, a2, a3⟩ := fin (y2 - y1) (x2 - x1) ⟨Bd.up (bd_sub (x := y2) (y := y1)).lt (by decide)⟩ hr
    exact ⟨s, a1, a2, fun z => absurd z hne, fun _ => by rw [a3, zm_sub, zm_sub]⟩
theorem add_ok [hC : CvP C] (P Q : C.Pt) : m_Curve_add C.o (lf P) (lf Q) = .ok (lf (P + Q)) := by
  unfold m_Curve_add
  by_cases hP : P = 0
  · subst hP
    simp only [Res.bind_ok, isNon_lf0, cond_true, g_zero_add]
  by_cases hQ : Q = 0
  · subst hQ
    simp only [Res.bind_ok, isNon_lf0, isNon_lf hP, cond_true, cond_false, g_add_zero]
  have ok0 : (toD (lf Q)).okq = true ∧ (toD (lf (-P))).okq = true := ⟨okq_p2 _, okq_p2 _⟩
  simp only [Res.bind_ok, isNon_lf hP, isNon_lf hQ, cond_false, neg_ok, Res.need_pos ok0, pyEq_lf]
  by_cases hn : Q = -P
  · rw [decide_eq_true hn, cond_true, hn, g_add_neg]; rfl
  · rw [decide_eq_false hn, cond_false]
    cases e1 : lf P with
    | none => exact absurd (lf_none e1) hP
    | some q =>
    cases e2 : lf Q with
    | none => exact absurd (lf_none e2) hQ
    | some r =>
    obtain ⟨x1, y1⟩ := q
    obtain ⟨x2, y2⟩ := r
    obtain ⟨X1, Y1, O1, v1⟩ := lf_some e1
    obtain ⟨X2, Y2, O2, v2⟩ := lf_some e2
    obtain ⟨s, a1, a2, a3⟩ := slope_ok e1 e2 hn
    have := X1.bd
    have := X2.bd
    have := Y1.bd
    have := Y2.bd
    have := a2.bd
    have og : ∀ z : T2 Int Int, optGet (some z) = .ok z := fun _ => rfl
    simp (decide := true) only [Res.bind_ok, og, a1, need_bind, need_bd, need_p, need_pw2, tn2]
    rw [lf_add e1 e2 hn a3, ipow2]
end

/-! ### the curve of a law -/
theorem nosing_of {p : Nat} {a b : Int} (h : ¬ (4 * a ^ 3 + 27 * b ^ 2) % (p : Int) = 0) : NoSing (zm p a) (zm p b) := by
  intro e
  apply h
  rw [← zm_zero, Int.pow_succ, ipow2, ipow2, zm_add, zm_mul, zm_mul, zm_mul, zm_mul, zm_mul]
  have e : (4 : Zp p) * zm p a * zm p a * zm p a + 27 * zm p b * zm p b = 0 := e
  show (4 : Zp p) * _ + (27 : Zp p) * _ = 0
  grind
theorem cv_ex {p : Nat} (h : Pr p) (h5 : 5 ≤ p) {a b : Int} (A : Rs p a) (B : Rs p b) (hs : ¬ (4 * a ^ 3 + 27 * b ^ 2) % (p : Int) = 0) : ∃ C : Cv, CvP C ∧ C.p = p ∧ C.a = a ∧ C.b = b :=
  ⟨⟨p, a, b, h.pr, h5, A.1, A.2, B.1, B.2, nosing_of hs⟩, ⟨h⟩, rfl, rfl, rfl⟩
/-! ### multiples -/
theorem half_lt {n : Nat} (h : 0 < n) : n / 2 < n := Nat.div_lt_self h (by decide)
section
variable {C : Cv} [hC : CvP C]
theorem mbb_loop (k : P2 × P2 × Int → Res P2) : ∀ (fuel n : Nat) (R D : C.Pt), n < fuel → ∃ D' : C.Pt, m_multiply_by_bits_w2 C.o k fuel (lf R, lf D, (n : Int)) = k (lf (R + nsm n D), lf D', 0) := by
  intro fuel
  induction fuel with
  | zero => intro n R D h; omega
  | succ f ih =>
    intro n R D h
    rw [m_multiply_by_bits_w2]
    have t1 : (n : Int) / 2 ^ (1 : Int).toNat = ((n / 2 : Nat) : Int) := by show (n : Int) / 2 = _; omega
    have e2 : nsm n D = nsm (n % 2) D + nsm (n / 2) (D + D) := by
      have : D + D = nsm 2 D := by rw [nsm_succ, nsm_one]
      rw [this, ← nsm_mul, ← nsm_add]
      congr 1
      omega
    unfold m_multiply_by_bits_k3
    simp only [Res.bind_ok, bit1, add_ok, t1]
    by_cases hn : n = 0
    · subst hn
      exact ⟨D, by simp [nsm_zero, g_add_zero]⟩
    · rw [decide_eq_true (show (0 : Int) < (n : Int) by omega), cond_true]
      by_cases ho : (n : Int) % 2 = 1
      · obtain ⟨D', q⟩ := ih (n / 2) (R + D) (D + D) (by have := half_lt (Nat.pos_of_ne_zero hn); omega)
        rw [decide_eq_true ho, cond_true, q, e2, show n % 2 = 1 by omega, nsm_one, g_add_assoc]
        exact ⟨D', rfl⟩
      · obtain ⟨D', q⟩ := ih (n / 2) R (D + D) (by have := half_lt (Nat.pos_of_ne_zero hn); omega)
        rw [decide_eq_false ho, cond_false, q, e2, show n % 2 = 0 by omega, nsm_zero, g_zero_add]
        exact ⟨D', rfl⟩
theorem mbb_nat (n k : Nat) (P : C.Pt) : m_multiply_by_bits (k + 1) C.o none (n : Int) (lf P) = .ok (lf (nsm n P)) := by
  have h0 : (none : P2) = lf (0 : C.Pt) := rfl
  rw [m_multiply_by_bits]
  unfold m_multiply_by_bits_b
  rw [h0]
  obtain ⟨D', q⟩ := mbb_loop (C := C) m_multiply_by_bits_k4 ((n : Int).toNat + 1) n 0 P (by omega)
  simp only [Res.bind_ok, decide_eq_false (show ¬ (n : Int) < 0 by omega), cond_false, q]
  unfold m_multiply_by_bits_k4
  rw [g_zero_add]
theorem mbb_ok (n : Int) (P : C.Pt) : m_multiply_by_bits 2 C.o none n (lf P) = .ok (lf (zsm n P)) := by
  rcases Int.eq_nat_or_neg n with ⟨k, rfl | rfl⟩
  · rw [mbb_nat, zsm_nat]
  · by_cases hk : k = 0
    · subst hk
      exact mbb_nat 0 1 P
    · have hneg : decide (-(k : Int) < 0) = true := decide_eq_true (by omega)
      rw [m_multiply_by_bits]
      unfold m_multiply_by_bits_b
      simp only [Res.bind_ok, hneg, cond_true, Int.neg_neg, neg_ok, mbb_nat, zsm_neg_nat, nsm_neg]
theorem mul_ok (n : Int) (P : C.Pt) : m_Curve_multiply C.o n (lf P) = .ok (lf (zsm n P)) := by
  unfold m_Curve_multiply
  simp only [Res.bind_ok, mbb_ok]
end

/-! ### Jacobian coordinates -/
section
variable {p : Nat}
theorem z_assoc (a b c : Zp p) : a * b * c = a * (b * c) := by grind
theorem z_u (x z u : Zp p) : x * (z * z) * u * u = x * (z * u * (z * u)) := by grind
theorem z_u' (x z u : Zp p) : x * (u * u) * z * z = x * (z * u * (z * u)) := by grind
theorem z_s (x z u : Zp p) : x * (z * z * z) * u * u * u = x * (z * u * (z * u) * (z * u)) := by grind
theorem z_s' (x z u : Zp p) : x * (u * u * u) * z * z * z = x * (z * u * (z * u) * (z * u)) := by grind
theorem z_d (x y w : Zp p) : x * w - y * w = w * (x - y) := by grind
theorem z_d0 (x : Zp p) : 0 * x = 0 := by grind
theorem z_c (x y : Zp p) : x * y = y * x := by grind
theorem z_0 (x : Zp p) : x - x = 0 := by grind
theorem z_e {x y : Zp p} (h : x - y = 0) : x = y := by grind
theorem jd_x {x y z l a X Y s m X3 Z3 : Zp p} (hl : l * (y + y) = x * x + x * x + x * x + a) (hX : X = x * (z * z)) (hY : Y = y * (z * z * z)) (hs : s = 4 * X * Y * Y) (hm : m = 3 * X * X + a * z * z * z * z) (h3 : X3 = m * m - 2 * s) (hz : Z3 = 2 * Y * z) :
    X3 = (l * l - x - x) * (Z3 * Z3) := by
  have ea : a = l * (y + y) - (x * x + x * x + x * x) := by grind
  subst ea hX hY hs hm h3 hz
  grind
theorem jd_y {x y z l a X Y s m X3 Y3 Z3 : Zp p} (hl : l * (y + y) = x * x + x * x + x * x + a) (hX : X = x * (z * z)) (hY : Y = y * (z * z * z)) (hs : s = 4 * X * Y * Y) (hm : m = 3 * X * X + a * z * z * z * z) (h3 : X3 = (l * l - x - x) * (Z3 * Z3)) (hz : Z3 = 2 * Y * z) (h4 : Y3 = m * (s - X3) - 8 * Y * Y * Y * Y) :
    Y3 = (l * (x - (l * l - x - x)) - y) * (Z3 * Z3 * Z3) := by
  have ea : a = l * (y + y) - (x * x + x * x + x * x) := by grind
  subst ea hX hY hs hm h3 hz h4
  grind
theorem js_x {x1 y1 x2 y2 w l u1 u2 s1 s2 h r X3 Z3 : Zp p} (hl : y2 - y1 = l * (x2 - x1)) (h1 : u1 = x1 * (w * w)) (h2 : u2 = x2 * (w * w)) (h3 : s1 = y1 * (w * w * w)) (h4 : s2 = y2 * (w * w * w)) (hh : h = u2 - u1) (hr : r = s2 - s1) (hX : X3 = r * r - h * h * h - 2 * u1 * h * h) (hz : Z3 = h * w) :
    X3 = (l * l - x1 - x2) * (Z3 * Z3) := by
  have e : y2 = y1 + l * (x2 - x1) := by grind
  subst e h1 h2 h3 h4 hh hr hX hz
  grind
theorem js_y {x1 y1 x2 y2 w l u1 u2 s1 s2 h r X3 Y3 Z3 : Zp p} (hl : y2 - y1 = l * (x2 - x1)) (h1 : u1 = x1 * (w * w)) (h2 : u2 = x2 * (w * w)) (h3 : s1 = y1 * (w * w * w)) (h4 : s2 = y2 * (w * w * w)) (hh : h = u2 - u1) (hr : r = s2 - s1) (hX : X3 = (l * l - x1 - x2) * (Z3 * Z3)) (hz : Z3 = h * w) (hY : Y3 = r * (u1 * h * h - X3) - s1 * h * h * h) :
    Y3 = (l * (x1 - (l * l - x1 - x2)) - y1) * (Z3 * Z3 * Z3) := by
  have e : y2 = y1 + l * (x2 - x1) := by grind
  subst e h1 h2 h3 h4 hh hr hX hz hY
  grind
end
abbrev I3 := T3 Int Int Int
structure Rs3 (p : Nat) (t : I3) : Prop where
  a : Rs p t.a
  b : Rs p t.b
  c : Rs p t.c
/-- the triple stands for the point -/
def Jc (C : Cv) (t : I3) (P : C.Pt) : Prop := (t.c = 0 ∧ P = 0) ∨ (t.c ≠ 0 ∧ ∃ x y, P.v = some (x, y) ∧ zm C.p t.a = x * (zm C.p t.c * zm C.p t.c) ∧ zm C.p t.b = y * (zm C.p t.c * zm C.p t.c * zm C.p t.c))
section
variable {C : Cv}
theorem Jc.zero {t : I3} (h : t.c = 0) : Jc C t 0 := .inl ⟨h, rfl⟩
theorem zm_ne {x : Int} (hx : Rs C.p x) (h : x ≠ 0) : zm C.p x ≠ 0 := fun e => h (res_eq hx.1 hx.2 (Int.le_refl 0) (by have := C.ge; omega) e)
theorem some_ne0 {P : C.Pt} {q : Zp C.p × Zp C.p} (h : P.v = some q) : P ≠ 0 := fun e => by rw [e] at h; cases h
theorem ne0_some {P : C.Pt} (h : P ≠ 0) : ∃ x y, P.v = some (x, y) := by
  cases e : P.v with
  | none => exact absurd (Cv.ext e) h
  | some q => exact ⟨q.1, q.2, rfl⟩
/-- the double by its slope -/
theorem dbl_v {P : C.Pt} {x y : Zp C.p} (h : P.v = some (x, y)) (hy : y ≠ 0) : ∃ l, l * (y + y) = x * x + x * x + x * x + zm C.p C.a ∧ (P + P).v = some (l * l - x - x, l * (x - (l * l - x - x)) - y) := by
  have on := P.on
  rw [h] at on
  have hn : ¬ (x = x ∧ y + y = 0) := fun z => by
    have : 2 * y = 0 := by have := z.2; grind
    exact z_mul_ne C.pr C.two hy this
  obtain ⟨l, sl, e⟩ := slp_ex C.two on on hn
  refine ⟨l, sl.2, ?_⟩
  show padd _ P.v P.v = _
  rw [h]; exact e
theorem dbl_0 {P : C.Pt} {x : Zp C.p} (h : P.v = some (x, 0)) : P + P = 0 := by
  apply Cv.ext
  show padd _ P.v P.v = none
  rw [h, padd_eq, if_pos ⟨rfl, by grind⟩]
theorem add_v {P Q : C.Pt} {x1 y1 x2 y2 : Zp C.p} (h1 : P.v = some (x1, y1)) (h2 : Q.v = some (x2, y2)) (hx : x1 ≠ x2) : ∃ l, y2 - y1 = l * (x2 - x1) ∧ (P + Q).v = some (l * l - x1 - x2, l * (x1 - (l * l - x1 - x2)) - y1) := by
  have o1 := P.on
  have o2 := Q.on
  rw [h1] at o1
  rw [h2] at o2
  obtain ⟨l, sl, e⟩ := slp_ex C.two o1 o2 (fun z => hx z.1)
  refine ⟨l, sl.1, ?_⟩
  show padd _ P.v Q.v = _
  rw [h1, h2]; exact e
theorem same_x {P Q : C.Pt} {x y1 y2 : Zp C.p} (h1 : P.v = some (x, y1)) (h2 : Q.v = some (x, y2)) (hy : y1 ≠ y2) : P + Q = 0 := by
  have o1 := P.on
  have o2 := Q.on
  rw [h1] at o1
  rw [h2] at o2
  have o1 : y1 * y1 = x * x * x + zm C.p C.a * x + zm C.p C.b := o1
  have o2 : y2 * y2 = x * x * x + zm C.p C.a * x + zm C.p C.b := o2
  have : (y1 - y2) * (y1 + y2) = 0 := by grind
  have s : y1 + y2 = 0 := (z_dom C.pr this).resolve_left (by grind)
  apply Cv.ext
  show padd _ P.v Q.v = none
  rw [h1, h2, padd_eq, if_pos ⟨rfl, s⟩]
def jdbl (C : Cv) (t : I3) : I3 := if t.b = 0 ∨ t.c = 0 then ⟨1, 1, 0⟩ else
  let s := 4 * t.a * t.b * t.b
  let m := 3 * t.a * t.a + C.a * t.c * t.c * t.c * t.c
  ⟨(m * m - 2 * s) % C.p, (m * (s - (m * m - 2 * s)) - 8 * t.b * t.b * t.b * t.b) % C.p, 2 * t.b * t.c % C.p⟩
def jsum (C : Cv) (t u : I3) : I3 := if t.c = 0 then u else if u.c = 0 then t else
  let u1 := t.a * u.c * u.c
  let u2 := u.a * t.c * t.c
  let s1 := t.b * u.c * u.c * u.c
  let s2 := u.b * t.c * t.c * t.c
  if (u1 - u2) % (C.p : Int) = 0 then if (s1 - s2) % (C.p : Int) = 0 then jdbl C t else ⟨1, 1, 0⟩
  else
    let h := u2 - u1
    let r := s2 - s1
    let x := r * r - h * h * h - 2 * u1 * h * h
    ⟨x % C.p, (r * (u1 * h * h - x) - s1 * h * h * h) % C.p, h * t.c * u.c % C.p⟩
theorem rs_ne {p : Nat} (h : 5 ≤ p) : Rs p 1 ∧ Rs p 0 := ⟨⟨by decide, by omega⟩, ⟨by decide, by omega⟩⟩
theorem jdbl_rs [hC : CvP C] (t : I3) : Rs3 C.p (jdbl C t) := by
  unfold jdbl
  split
  · exact ⟨(rs_ne C.ge).1, (rs_ne C.ge).1, (rs_ne C.ge).2⟩
  · exact ⟨rs_mod _, rs_mod _, rs_mod _⟩
theorem jsum_rs [hC : CvP C] {t u : I3} (ht : Rs3 C.p t) (hu : Rs3 C.p u) : Rs3 C.p (jsum C t u) := by
  unfold jsum
  split
  · exact hu
  · split
    · exact ht
    · dsimp only
      split
      · split
        · exact jdbl_rs t
        · exact ⟨(rs_ne C.ge).1, (rs_ne C.ge).1, (rs_ne C.ge).2⟩
      · exact ⟨rs_mod _, rs_mod _, rs_mod _⟩
theorem jdbl_ok {t : I3} {P : C.Pt} (ht : Rs3 C.p t) (h : Jc C t P) : Jc C (jdbl C t) (P + P) := by
  unfold jdbl
  rcases h with ⟨h1, h2⟩ | ⟨h1, x, y, hv, hx, hy⟩
  · rw [if_pos (.inr h1), h2, g_add_zero]; exact Jc.zero rfl
  · have hz := zm_ne ht.c h1
    by_cases hb : t.b = 0
    · rw [if_pos (.inl hb)]
      have y0 : y = 0 := by
        rw [hb] at hy
        have hy : (0 : Zp C.p) = _ := hy
        have e : (zm C.p t.c * zm C.p t.c * zm C.p t.c) * y = 0 := by grind
        exact z_cancel C.pr (z_mul_ne C.pr (z_mul_ne C.pr hz hz) hz) e
      subst y0
      rw [dbl_0 hv]; exact Jc.zero rfl
    · rw [if_neg (fun z => z.elim hb h1)]
      have yb := zm_ne ht.b hb
      have y0 : y ≠ 0 := by
        intro e
        apply yb
        rw [hy, e]; grind
      obtain ⟨l, e1, e2⟩ := dbl_v hv y0
      have Z : zm C.p (2 * t.b * t.c % C.p) = 2 * zm C.p t.b * zm C.p t.c := by rw [zm_mod, zm_mul, zm_mul]; rfl
      have M : zm C.p (3 * t.a * t.a + C.a * t.c * t.c * t.c * t.c) = 3 * zm C.p t.a * zm C.p t.a + zm C.p C.a * zm C.p t.c * zm C.p t.c * zm C.p t.c * zm C.p t.c := by
        simp only [zm_add, zm_mul]; rfl
      have S : zm C.p (4 * t.a * t.b * t.b) = 4 * zm C.p t.a * zm C.p t.b * zm C.p t.b := by
        simp only [zm_mul]; rfl
      dsimp only
      generalize 3 * t.a * t.a + C.a * t.c * t.c * t.c * t.c = m at *
      generalize 4 * t.a * t.b * t.b = s at *
      have X := jd_x (X3 := zm C.p (m * m - 2 * s)) e1 hx hy S M (by simp only [zm_sub, zm_mul]; rfl) Z
      have Y := jd_y (Y3 := zm C.p (m * (s - (m * m - 2 * s)) - 8 * t.b * t.b * t.b * t.b)) e1 hx hy S M X Z (by rw [zm_sub, zm_mul, zm_sub]; simp only [zm_mul]; rfl)
      refine .inr ⟨?_, _, _, e2, ?_, ?_⟩
      · intro e
        have e : 2 * t.b * t.c % (C.p : Int) = 0 := e
        have := zm_zero.mpr e
        rw [zm_mul, zm_mul] at this
        exact z_mul_ne C.pr (z_mul_ne C.pr C.two yb) hz this
      · dsimp only
        rw [← X, zm_mod]
      · dsimp only
        rw [← Y, zm_mod]
theorem jsum_ok {t u : I3} {P Q : C.Pt} (ht : Rs3 C.p t) (hu : Rs3 C.p u) (h : Jc C t P) (k : Jc C u Q) : Jc C (jsum C t u) (P + Q) := by
  unfold jsum
  rcases h with ⟨h1, h2⟩ | ⟨h1, x1, y1, hv, hx, hy⟩
  · rw [if_pos h1, h2, g_zero_add]; exact k
  rw [if_neg h1]
  rcases k with ⟨k1, k2⟩ | ⟨k1, x2, y2, kv, kx, ky⟩
  · rw [if_pos k1, k2, g_add_zero]
    exact .inr ⟨h1, x1, y1, hv, hx, hy⟩
  rw [if_neg k1]
  have hz := zm_ne ht.c h1
  have kz := zm_ne hu.c k1
  have U1 : zm C.p (t.a * u.c * u.c) = x1 * (zm C.p t.c * zm C.p u.c * (zm C.p t.c * zm C.p u.c)) := by rw [zm_mul, zm_mul, hx, z_u]
  have U2 : zm C.p (u.a * t.c * t.c) = x2 * (zm C.p t.c * zm C.p u.c * (zm C.p t.c * zm C.p u.c)) := by rw [zm_mul, zm_mul, kx, z_u']
  have S1 : zm C.p (t.b * u.c * u.c * u.c) = y1 * (zm C.p t.c * zm C.p u.c * (zm C.p t.c * zm C.p u.c) * (zm C.p t.c * zm C.p u.c)) := by rw [zm_mul, zm_mul, zm_mul, hy, z_s]
  have S2 : zm C.p (u.b * t.c * t.c * t.c) = y2 * (zm C.p t.c * zm C.p u.c * (zm C.p t.c * zm C.p u.c) * (zm C.p t.c * zm C.p u.c)) := by rw [zm_mul, zm_mul, zm_mul, ky, z_s']
  have W := z_mul_ne C.pr hz kz
  have W2 := z_mul_ne C.pr W W
  have W3 := z_mul_ne C.pr W2 W
  generalize hw : zm C.p t.c * zm C.p u.c = w at *
  dsimp only
  generalize t.a * u.c * u.c = u1 at *
  generalize u.a * t.c * t.c = u2 at *
  generalize t.b * u.c * u.c * u.c = s1 at *
  generalize u.b * t.c * t.c * t.c = s2 at *
  have D1 : (u1 - u2) % (C.p : Int) = 0 ↔ x1 = x2 := by
    rw [← zm_zero, zm_sub, U1, U2, z_d]
    exact ⟨fun e => z_e (z_cancel C.pr W2 e), fun e => by rw [e, z_0, z_c]; exact z_d0 _⟩
  have D2 : (s1 - s2) % (C.p : Int) = 0 ↔ y1 = y2 := by
    rw [← zm_zero, zm_sub, S1, S2, z_d]
    exact ⟨fun e => z_e (z_cancel C.pr W3 e), fun e => by rw [e, z_0, z_c]; exact z_d0 _⟩
  by_cases hxx : x1 = x2
  · rw [if_pos (D1.mpr hxx)]
    by_cases hyy : y1 = y2
    · rw [if_pos (D2.mpr hyy)]
      have : Q = P := Cv.ext (by rw [hv, kv, hxx, hyy])
      rw [this]
      exact jdbl_ok ht (.inr ⟨h1, x1, y1, hv, hx, hy⟩)
    · rw [if_neg (mt D2.mp hyy)]
      subst hxx
      rw [same_x hv kv hyy]
      exact Jc.zero rfl
  · rw [if_neg (mt D1.mp hxx)]
    obtain ⟨l, e1, e2⟩ := add_v hv kv hxx
    have H : zm C.p (u2 - u1) = zm C.p u2 - zm C.p u1 := zm_sub _ _
    have R : zm C.p (s2 - s1) = zm C.p s2 - zm C.p s1 := zm_sub _ _
    have hne : zm C.p (u2 - u1) ≠ 0 := by
      rw [H, U1, U2, z_d]
      intro e
      exact hxx (z_e (z_cancel C.pr W2 e)).symm
    generalize u2 - u1 = h at *
    generalize s2 - s1 = r at *
    have X := js_x (X3 := zm C.p (r * r - h * h * h - 2 * u1 * h * h)) (Z3 := zm C.p h * w) e1 U1 U2 S1 S2 H R (by simp only [zm_sub, zm_mul]; rfl) rfl
    have Y := js_y (Y3 := zm C.p (r * (u1 * h * h - (r * r - h * h * h - 2 * u1 * h * h)) - s1 * h * h * h)) (Z3 := zm C.p h * w) e1 U1 U2 S1 S2 H R X rfl (by rw [zm_sub, zm_mul, zm_sub (u1 * h * h)]; simp only [zm_mul])
    have Z : zm C.p (h * t.c * u.c % C.p) = zm C.p h * w := by rw [zm_mod, zm_mul, zm_mul, ← hw, z_assoc]
    refine .inr ⟨?_, _, _, e2, ?_, ?_⟩
    · intro e
      have e : h * t.c * u.c % (C.p : Int) = 0 := e
      have := zm_zero.mpr e
      rw [← zm_mod, Z] at this
      exact z_mul_ne C.pr hne W this
    · dsimp only
      rw [Z, ← X, zm_mod]
    · dsimp only
      rw [Z, ← Y, zm_mod]
end

/-! ### bits from the top -/
theorem compL_mapM {α β : Type} {e : α → Res β} {g : α → β} {xs : List α} (he : ∀ x ∈ xs, e x = .ok (g x)) : compL (fun _ => .ok true) e xs = .ok (xs.map g) := compL_map (fun _ _ => rfl) he
theorem pyDown_pos {i j k : Int} (h : k ∈ pyDown i j) : j < k := by
  unfold pyDown at h
  obtain ⟨a, ha, rfl⟩ := List.mem_map.mp h
  have := List.mem_range.mp ha
  omega
theorem top_ok {n : Nat} (hn : n < 2 ^ 16000000) : m_bits_from_top (n : Int) = .ok ((pyDown ((Builtin.Int.intBits (n : Int) : Nat) - 1 : Int) (-1)).map fun at_ => (n : Int) / 2 ^ at_.toNat % 2) := by
  have hb : Builtin.Int.intBits (n : Int) ≤ 16000000 := le_ibits (by rw [Int.natAbs_natCast]; exact hn)
  generalize hB : Builtin.Int.intBits (n : Int) = B at *
  have r1 : okRange ((B : Int) - 1) := ⟨by omega, by omega⟩
  have r2 : okRange (-1 : Int) := ⟨by decide, by decide⟩
  have hl : (pyDown ((B : Int) - 1) (-1)).length ≤ 16777216 := by rw [pyDown_len]; omega
  unfold m_bits_from_top
  simp only [Res.bind_ok, hB, Res.need_pos (⟨r1, r2⟩ : okRange ((B : Int) - 1) ∧ okRange (-1 : Int)), Res.need_pos hl]
  refine compL_mapM fun x hx => ?_
  have := pyDown_pos hx
  rw [Res.need_pos (by omega)]
  simp only [Res.bind_ok, bit1]
theorem ibits_lt {n : Nat} : n / 2 ^ (Builtin.Int.intBits (n : Int)) = 0 := by
  refine Nat.div_eq_of_lt ?_
  have := ibits_le (Nat.le_refl (Builtin.Int.intBits (n : Int)))
  rwa [Int.natAbs_natCast] at this

section
variable {C : Cv} [hC : CvP C]
theorem rz {p : Nat} {x y : Int} (h : zm p x = zm p y) : x % (p : Int) = y % p := zm_eq.mp h
theorem z_m1 (a b c : Zp C.p) : a * b * (c * c) = a * b * c * c := by grind
theorem z_m2 (a b : Zp C.p) : a * (b * b) * (b * b) = a * b * b * b * b := by grind
theorem z_m3 (a b c : Zp C.p) : a * (b * b) * c - a * (b * b) * c = 0 := by grind
theorem from_ok {t : I3} {P : C.Pt} (ht : Rs3 C.p t) (h : Jc C t P) : m_from_jacobian C.o t = .ok (lf P) := by
  obtain ⟨X, Y, Z⟩ := t
  have := ht.a.bd
  have := ht.b.bd
  unfold m_from_jacobian
  rcases h with ⟨h1, h2⟩ | ⟨h1, x, y, hv, hx, hy⟩
  · subst h2
    have h1 : Z = 0 := h1
    simp only [Res.bind_ok, decide_eq_true h1, cond_true]
    rfl
  · have h1 : Z ≠ 0 := h1
    have hz := zm_ne ht.c h1
    obtain ⟨i, e, ri, q⟩ := pinv_f hC.pr Z hz
    have := ri.bd
    simp (decide := true) only [Res.bind_ok, decide_eq_false h1, cond_false, e, need_bind, need_bd, need_p]
    have iv := z_mul_inv hz
    have hx : zm C.p X = x * (zm C.p Z * zm C.p Z) := hx
    have hy : zm C.p Y = y * (zm C.p Z * zm C.p Z * zm C.p Z) := hy
    show Res.ok (some (T2.mk _ _)) = Res.ok (lfv P.v)
    rw [hv]
    show Res.ok (some (T2.mk _ _)) = Res.ok (some (T2.mk (zv x) (zv y)))
    congr 3
    · rw [← zv_zm]
      congr 1
      rw [zm_mul, zm_mod, zm_mul, q, hx]
      generalize (zm C.p Z)⁻¹ = v at *
      generalize zm C.p Z = z at *
      clear hx hy q hz
      grind
    · rw [← zv_zm]
      congr 1
      rw [zm_mul, zm_mul, zm_mod, zm_mul, q, hy]
      generalize (zm C.p Z)⁻¹ = v at *
      generalize zm C.p Z = z at *
      clear hx hy q hz
      grind
theorem p4 (x : Int) : x ^ 4 = x * x * x * x := by rw [Int.pow_succ, Int.pow_succ, Int.pow_succ, Int.pow_succ, Int.pow_zero, Int.one_mul]
theorem dblj_ok {t : I3} (ht : Rs3 C.p t) : m_double_jacobian C.o t = .ok (jdbl C t) := by
  obtain ⟨X, Y, Z⟩ := t
  have := ht.a.bd
  have := ht.b.bd
  have := ht.c.bd
  have := (Cv.A C).bd
  unfold m_double_jacobian jdbl
  by_cases hb : Y = 0
  · simp only [Res.bind_ok, decide_eq_true hb, cond_true]
    rw [if_pos (.inl hb)]; rfl
  by_cases hc : Z = 0
  · simp only [Res.bind_ok, decide_eq_false hb, decide_eq_true hc, cond_true, cond_false]
    rw [if_pos (.inr hc)]; rfl
  rw [if_neg (fun z => z.elim hb hc)]
  simp (decide := true) only [Res.bind_ok, decide_eq_false hb, decide_eq_false hc, cond_false, need_bind, need_bd, need_p, need_pw4, tn4]
  clear hb hc
  have a1 : (3 * X * X + C.a * Z ^ 4) = 3 * X * X + C.a * Z * Z * Z * Z := by rw [p4]; ac_rfl
  rw [a1]
  congr 2
  · refine rz ?_
    simp only [zm_sub, zm_mul, zm_mod, ← z_assoc]
  · refine rz ?_
    simp only [zm_sub, zm_mul, zm_mod, ← z_assoc]
theorem scaled_ok {t : I3} (ht : Rs3 C.p t) {z : Int} (hz : Rs C.p z) : m_u_scaled t z (C.p : Int) = .ok (T2.mk (t.a * z * z % C.p) (t.b * z * z * z % C.p)) := by
  obtain ⟨X, Y, Z⟩ := t
  have := ht.a.bd
  have := ht.b.bd
  have := hz.bd
  unfold m_u_scaled
  simp (decide := true) only [Res.bind_ok, need_bind, need_bd, need_p]
  congr 2
  · refine rz ?_
    simp only [zm_mul, zm_mod, z_assoc]
  · refine rz ?_
    simp only [zm_mul, zm_mod, z_assoc]
theorem rs_eq {x y : Int} : x % (C.p : Int) = y % C.p ↔ (x - y) % (C.p : Int) = 0 := Int.emod_eq_emod_iff_emod_sub_eq_zero
theorem z_n1 (h r u s : Zp C.p) : r * r - h * (h * h) - 2 * (u * (h * h)) = r * r - h * h * h - 2 * u * h * h := by grind
theorem z_n2 (h r u s x : Zp C.p) : r * (u * (h * h) - x) - s * (h * (h * h)) = r * (u * h * h - x) - s * h * h * h := by grind
theorem addj_ok {t u : I3} (ht : Rs3 C.p t) (hu : Rs3 C.p u) : m_add_jacobian C.o t u = .ok (jsum C t u) := by
  unfold m_add_jacobian jsum
  by_cases hc : t.c = 0
  · simp only [Res.bind_ok, decide_eq_true hc, cond_true]
    rw [if_pos hc]
  by_cases hd : u.c = 0
  · simp only [Res.bind_ok, decide_eq_false hc, decide_eq_true hd, cond_true, cond_false]
    rw [if_neg hc, if_pos hd]
  rw [if_neg hc, if_neg hd]
  simp (decide := true) only [Res.bind_ok, decide_eq_false hc, decide_eq_false hd, cond_false, scaled_ok ht hu.c, scaled_ok hu ht.c]
  by_cases h1 : (t.a * u.c * u.c - u.a * t.c * t.c) % (C.p : Int) = 0
  · rw [decide_eq_true (rs_eq.mpr h1), cond_true, if_pos h1]
    by_cases h2 : (t.b * u.c * u.c * u.c - u.b * t.c * t.c * t.c) % (C.p : Int) = 0
    · simp only [decide_eq_true (rs_eq.mpr h2), cond_true, dblj_ok ht, Res.bind_ok]
      rw [if_pos h2]
    · simp only [decide_eq_false (mt rs_eq.mp h2), cond_false, Res.bind_ok]
      rw [if_neg h2]; rfl
  · have b1 := ht.c.bd
    have b2 := hu.c.bd
    rw [decide_eq_false (mt rs_eq.mp h1), cond_false, if_neg h1]
    simp (decide := true) only [Res.bind_ok, need_bind, need_bd, need_p]
    congr 2
    · refine rz ?_
      simp only [zm_sub, zm_mul, zm_mod]
      exact z_n1 _ _ _ 0
    · refine rz ?_
      simp only [zm_sub, zm_mul, zm_mod]
      show _ = _
      rw [show zm C.p 2 = (2 : Zp C.p) from rfl, z_n1 _ _ _ 0, z_n2]
    · refine rz ?_
      simp only [zm_sub, zm_mul, zm_mod]
theorem toj_ok (P : C.Pt) : ∃ t, m_to_jacobian (lf P) = .ok t ∧ Rs3 C.p t ∧ Jc C t P ∧ (lf P = none → t = ⟨1, 1, 0⟩) ∧ ∀ x y, lf P = some (T2.mk x y) → t = ⟨x, y, 1⟩ := by
  have r1 := rs_ne C.ge
  cases e : lf P with
  | none =>
    refine ⟨⟨1, 1, 0⟩, ?_, ⟨r1.1, r1.1, r1.2⟩, .inl ⟨rfl, lf_none e⟩, fun _ => rfl, fun x y h => by cases h⟩
    rfl
  | some q =>
    obtain ⟨x, y⟩ := q
    obtain ⟨hx, hy, ho, hv⟩ := lf_some e
    refine ⟨⟨x, y, 1⟩, ?_, ⟨hx, hy, r1.1⟩, .inr ⟨(show (1 : Int) ≠ 0 by decide), _, _, hv, ?_, ?_⟩, fun h => (by cases h), fun x' y' h => ?_⟩
    · rfl
    · show _ = _ * ((1 : Zp C.p) * 1); grind
    · show _ = _ * ((1 : Zp C.p) * 1 * 1); grind
    · cases h; rfl

theorem multj_loop {S : C.Pt} {s : I3} (hs : Rs3 C.p s) (xs : Jc C s S) (n : Nat) (k : I3 → Res P2) : ∀ (j : Nat) (r : I3), Rs3 C.p r → Jc C r (nsm (n / 2 ^ j) S) →
    ∃ r', m_multiply_jacobian_l1 C.o s k ((pyDown ((j : Int) - 1) (-1)).map fun at_ => (n : Int) / 2 ^ at_.toNat % 2) r = k r' ∧ Rs3 C.p r' ∧ Jc C r' (nsm n S) := by
  intro j
  induction j with
  | zero =>
    intro r h1 h2
    refine ⟨r, ?_, h1, by simpa using h2⟩
    rw [pyDown_nil (by omega), List.map_nil, m_multiply_jacobian_l1]
  | succ j ih =>
    intro r h1 h2
    have e1 : ((j + 1 : Nat) : Int) - 1 = (j : Int) := by omega
    have pw : (n : Int) / 2 ^ (j : Int).toNat = ((n / 2 ^ j : Nat) : Int) := by
      rw [Int.toNat_natCast, Int.natCast_ediv, Int.natCast_pow]; rfl
    have dd : n / 2 ^ (j + 1) = n / 2 ^ j / 2 := by rw [Nat.pow_succ, Nat.div_div_eq_div_mul]
    rw [dd] at h2
    generalize hm : n / 2 ^ j = m at *
    have e2 : nsm m S = nsm (m / 2) S + nsm (m / 2) S + nsm (m % 2) S := by
      rw [← nsm_add, ← nsm_add]; congr 1; omega
    rw [e1, pyDown_cons (by omega), List.map_cons, pw, m_multiply_jacobian_l1]
    have rr := jdbl_rs (C := C) r
    have xr := jdbl_ok h1 h2
    simp only [Res.bind_ok, dblj_ok h1]
    by_cases c : (m : Int) % 2 = 1
    · rw [decide_eq_true c, cond_true]
      simp only [addj_ok rr hs, Res.bind_ok]
      refine ih _ (jsum_rs rr hs) ?_
      rw [e2, show m % 2 = 1 by omega, nsm_one]
      exact jsum_ok rr hs xr xs
    · rw [decide_eq_false c, cond_false]
      refine ih _ rr ?_
      rw [e2, show m % 2 = 0 by omega, nsm_zero, g_add_zero]
      exact xr
theorem multj_ok {f : Int} (hf : f.natAbs < 2 ^ 16000000) (P : C.Pt) : m_multiply_jacobian C.o f (lf P) = .ok (lf (zsm f P)) := by
  have r1 := rs_ne C.ge
  have key : ∀ (S : C.Pt), nsm f.natAbs S = zsm f P → ∀ s : I3, m_to_jacobian (lf S) = .ok s → Rs3 C.p s → Jc C s S → m_multiply_jacobian_l1 C.o s (m_multiply_jacobian_k2 C.o) ((pyDown ((Builtin.Int.intBits (f.natAbs : Int) : Nat) - 1 : Int) (-1)).map fun at_ => (f.natAbs : Int) / 2 ^ at_.toNat % 2) k_INFINITY = .ok (lf (zsm f P)) := by
    intro S hS s e1 e2 e3
    obtain ⟨r', a1, a2, a3⟩ := multj_loop e2 e3 f.natAbs (m_multiply_jacobian_k2 C.o) (Builtin.Int.intBits (f.natAbs : Int)) k_INFINITY ⟨r1.1, r1.1, r1.2⟩ (by rw [ibits_lt, nsm_zero]; exact .inl ⟨rfl, rfl⟩)
    rw [a1]
    unfold m_multiply_jacobian_k2
    simp only [Res.bind_ok, from_ok a2 a3, hS]
  unfold m_multiply_jacobian
  by_cases c : f < 0
  · obtain ⟨s, e1, e2, e3, _⟩ := toj_ok (-P)
    have hS : nsm f.natAbs (-P) = zsm f P := by
      rw [nsm_neg, ← zsm_neg_nat]; congr 1; omega
    have q := key (-P) hS s e1 e2 e3
    simp only [Res.bind_ok, decide_eq_true c, cond_true, neg_ok, e1, top_ok hf]
    exact q
  · obtain ⟨s, e1, e2, e3, _⟩ := toj_ok P
    have hS : nsm f.natAbs P = zsm f P := by
      rw [← zsm_nat]; congr 1; omega
    have q := key P hS s e1 e2 e3
    simp only [Res.bind_ok, decide_eq_false c, cond_false, e1, top_ok hf]
    exact q
end
/-! ### the same sums over plain numbers, for the kernel -/
def jd (p : Nat) (a : Int) (t : I3) : I3 := if t.b = 0 ∨ t.c = 0 then ⟨1, 1, 0⟩ else
  let s := 4 * t.a * t.b * t.b
  let m := 3 * t.a * t.a + a * t.c * t.c * t.c * t.c
  ⟨(m * m - 2 * s) % p, (m * (s - (m * m - 2 * s)) - 8 * t.b * t.b * t.b * t.b) % p, 2 * t.b * t.c % p⟩
def js (p : Nat) (a : Int) (t u : I3) : I3 := if t.c = 0 then u else if u.c = 0 then t else
  let u1 := t.a * u.c * u.c
  let u2 := u.a * t.c * t.c
  let s1 := t.b * u.c * u.c * u.c
  let s2 := u.b * t.c * t.c * t.c
  if (u1 - u2) % (p : Int) = 0 then if (s1 - s2) % (p : Int) = 0 then jd p a t else ⟨1, 1, 0⟩
  else
    let h := u2 - u1
    let r := s2 - s1
    let x := r * r - h * h * h - 2 * u1 * h * h
    ⟨x % p, (r * (u1 * h * h - x) - s1 * h * h * h) % p, h * t.c * u.c % p⟩
theorem jd_eq (C : Cv) (t : I3) : jdbl C t = jd C.p C.a t := rfl
theorem js_eq (C : Cv) (t u : I3) : jsum C t u = js C.p C.a t u := rfl
/-- goes on with a number that stands written out -/
def frc {α : Type} (x : Int) (k : Int → α) : α := match x with
  | .ofNat 0 => k 0
  | .ofNat (m + 1) => k (.ofNat (m + 1))
  | .negSucc m => k (.negSucc m)
theorem frc_eq {α : Type} (x : Int) (k : Int → α) : frc x k = k x := by
  unfold frc; split <;> rfl
def fr3 {α : Type} (t : I3) (k : I3 → α) : α := frc t.a fun a => frc t.b fun b => frc t.c fun c => k ⟨a, b, c⟩
theorem fr3_eq {α : Type} (t : I3) (k : I3 → α) : fr3 t k = k t := by
  unfold fr3; rw [frc_eq, frc_eq, frc_eq]
def jms (p : Nat) (a : Int) (s : I3) (n : Nat) : Nat → I3 → I3
  | 0, r => r
  | j + 1, r => fr3 (jd p a r) fun r => if n / 2 ^ j % 2 = 1 then fr3 (js p a r s) fun r => jms p a s n j r else jms p a s n j r
theorem jms_ok {C : Cv} [hC : CvP C] {S : C.Pt} {s : I3} (hs : Rs3 C.p s) (xs : Jc C s S) (n : Nat) : ∀ (j : Nat) (r : I3), Rs3 C.p r → Jc C r (nsm (n / 2 ^ j) S) → Jc C (jms C.p C.a s n j r) (nsm n S) := by
  intro j
  induction j with
  | zero => intro r h1 h2; simpa [jms] using h2
  | succ j ih =>
    intro r h1 h2
    have dd : n / 2 ^ (j + 1) = n / 2 ^ j / 2 := by rw [Nat.pow_succ, Nat.div_div_eq_div_mul]
    rw [dd] at h2
    have rr := jdbl_rs (C := C) r
    have xr := jdbl_ok h1 h2
    rw [jms, fr3_eq]
    generalize hm : n / 2 ^ j = m at *
    have e2 : nsm m S = nsm (m / 2) S + nsm (m / 2) S + nsm (m % 2) S := by
      rw [← nsm_add, ← nsm_add]; congr 1; omega
    rw [← jd_eq]
    by_cases c : m % 2 = 1
    · rw [if_pos c, fr3_eq, ← js_eq]
      refine ih _ (jsum_rs rr hs) ?_
      rw [e2, c, nsm_one]
      exact jsum_ok rr hs xr xs
    · rw [if_neg c]
      refine ih _ rr ?_
      rw [e2, show m % 2 = 0 by omega, nsm_zero, g_add_zero]
      exact xr
theorem ord_ok {C : Cv} [hC : CvP C] {B : C.Pt} {x y : Int} (hB : lf B = some (T2.mk x y)) {n j : Nat} (hn : n / 2 ^ j = 0) (h : (jms C.p C.a ⟨x, y, 1⟩ n j ⟨1, 1, 0⟩).c = 0) : nsm n B = 0 := by
  have r1 := rs_ne C.ge
  obtain ⟨t, _, h2, h3, _, h5⟩ := toj_ok B
  have e := h5 x y hB
  subst e
  have q := jms_ok h2 h3 n j ⟨1, 1, 0⟩ ⟨r1.1, r1.1, r1.2⟩ (by rw [hn]; exact .inl ⟨rfl, rfl⟩)
  rcases q with ⟨_, q⟩ | ⟨q, _⟩
  · exact q
  · exact absurd h q

/-! ### named groups -/
abbrev sz (n : Int) : Int := ((Builtin.Int.intBits n : Nat) + 7) / 8
theorem has_lf {C : Cv} [hC : CvP C] (P : C.Pt) : m_Curve_has C.o (toD (lf P)) = .ok true := by
  cases e : lf P with
  | none => rfl
  | some q =>
    obtain ⟨x, y⟩ := q
    obtain ⟨hx, hy, ho, _⟩ := lf_some e
    have := has_pair (b := C.b) (Cv.A C) hx hy
    rw [decide_eq_true ho] at this
    exact this
theorem named_ok {name : Str} {p n : Nat} {a b x y : Int} (j : Nat) (hp : Pr p) (h5 : 5 ≤ p) (A : 0 ≤ a ∧ a < p) (B : 0 ≤ b ∧ b < p) (X : 0 ≤ x ∧ x < p) (Y : 0 ≤ y ∧ y < p)
    (hs : ¬ (4 * a ^ 3 + 27 * b ^ 2) % (p : Int) = 0) (ho : (y * y - x * x * x - a * x - b) % (p : Int) = 0) (hl : n < 2 ^ 257) (h1 : din k_WEIERSTRASS_NUMBERS name = true) (h2 : dget k_WEIERSTRASS_NUMBERS name = .ok ⟨p, a, b, ⟨x, y⟩, n⟩)
    (hn : n / 2 ^ j = 0) (hc : (jms p a ⟨x, y, 1⟩ n j ⟨1, 1, 0⟩).c = 0) :
    ∃ C : Cv, CvP C ∧ C.p = p ∧ C.a = a ∧ C.b = b ∧ ∃ Bp : C.Pt, m_group_named name = .ok (.l ⟨name, "weierstrass", C.o, C.p, ⟨x, y⟩, n, 1, sz C.p, sz n⟩) ∧ lf Bp = some ⟨x, y⟩ ∧ nsm n Bp = 0 := by
  obtain ⟨C, hC, e1, e2, e3⟩ := cv_ex hp h5 A B hs
  subst e1 e2 e3
  refine ⟨C, hC, rfl, rfl, rfl, ?_⟩
  obtain ⟨Bp, b1, b2⟩ := lf_ex (C := C) X Y ho
  have o := ord_ok b1 hn hc
  refine ⟨Bp, ?_, b1, o⟩
  have hb := has_lf Bp
  rw [b1] at hb
  have hm := multj_ok (f := (n : Int)) (by rw [Int.natAbs_natCast]; exact Nat.lt_of_lt_of_le hl (Nat.pow_le_pow_right (by decide) (by decide))) Bp
  rw [b1, zsm_nat, o] at hm
  have i1 : m_Curve_init (C.p : Int) C.a C.b = .ok C.o := by
    have := init_ok hp h5 C.a C.b
    rw [Int.emod_eq_of_lt A.1 A.2, Int.emod_eq_of_lt B.1 B.2, if_neg hs] at this
    exact this
  have n1 : (toD (T2.mk x y)).isNon = false := rfl
  have hb' : m_Curve_has C.o (toD (T2.mk x y)) = .ok true := hb
  have n2 : (toD (lf (0 : C.Pt))).isNon = true := rfl
  have k1 : m_group_kind name = .ok "weierstrass" := by
    unfold m_group_kind
    simp only [Res.bind_ok, h1, cond_true]
  have k2 : (("weierstrass" : Str) == ("weierstrass" : Str)) = true := by decide
  unfold m_group_named m_Group_init m_Group_super__init__ m_u_byte_size
  simp only [Res.bind_ok, k1, k2, cond_true, h2, i1, n1, cond_false, hb', Bool.not_true, hm, n2]
structure GpOk (g : O_Group) (C : Cv) (B : C.Pt) (n : Nat) : Prop where
  cv : g.f_curve = C.o
  od : g.f_order = n
  bs : some g.f_base = lf B
  ord : nsm n B = 0
  pos : 0 < n
  lt : n < 2 ^ 257
def Nmd (name : Str) : Prop := ∃ g, m_group_named name = .ok (.l g) ∧ ∃ C : Cv, CvP C ∧ ∃ B : C.Pt, ∃ n, GpOk g C B n
theorem nmd {name : Str} {p n : Nat} {a b x y : Int} (j : Nat) (hp : Pr p) (h : (5 ≤ p ∧ (0 ≤ a ∧ a < p) ∧ (0 ≤ b ∧ b < p) ∧ (0 ≤ x ∧ x < p) ∧ (0 ≤ y ∧ y < p)) ∧ (¬ (4 * a ^ 3 + 27 * b ^ 2) % (p : Int) = 0) ∧ (y * y - x * x * x - a * x - b) % (p : Int) = 0 ∧ n < 2 ^ 257 ∧ 0 < n ∧ n / 2 ^ j = 0)
    (h1 : din k_WEIERSTRASS_NUMBERS name = true) (h2 : dget k_WEIERSTRASS_NUMBERS name = .ok ⟨p, a, b, ⟨x, y⟩, n⟩) (hc : (jms p a ⟨x, y, 1⟩ n j ⟨1, 1, 0⟩).c = 0) : Nmd name := by
  obtain ⟨⟨h5, A, B, X, Y⟩, hs, ho, hl, hn0, hn⟩ := h
  obtain ⟨C, hC, _, _, _, Bp, e, b1, o⟩ := named_ok j hp h5 A B X Y hs ho hl h1 h2 hn hc
  exact ⟨_, e, C, hC, Bp, n, rfl, rfl, b1.symm, o, hn0, hl⟩
theorem n_w11 : Nmd "w11" := nmd (p := 11) 8 ⟨prime_by (f := 3) (by decide) (by decide) (by decide +kernel), by decide, by decide +kernel⟩ (by decide +kernel) rfl rfl (by decide +kernel)
theorem n_w23 : Nmd "w23" := nmd (p := 23) 8 ⟨prime_by (f := 4) (by decide) (by decide) (by decide +kernel), by decide, by decide +kernel⟩ (by decide +kernel) rfl rfl (by decide +kernel)
theorem n_w43 : Nmd "w43" := nmd (p := 43) 8 ⟨prime_by (f := 6) (by decide) (by decide) (by decide +kernel), by decide, by decide +kernel⟩ (by decide +kernel) rfl rfl (by decide +kernel)
theorem n_w79 : Nmd "w79" := nmd (p := 79) 8 ⟨prime_by (f := 8) (by decide) (by decide) (by decide +kernel), by decide, by decide +kernel⟩ (by decide +kernel) rfl rfl (by decide +kernel)
theorem n_w251 : Nmd "w251" := nmd (p := 251) 8 ⟨prime_by (f := 15) (by decide) (by decide) (by decide +kernel), by decide, by decide +kernel⟩ (by decide +kernel) rfl rfl (by decide +kernel)
theorem n_w1021 : Nmd "w1021" := nmd (p := 1021) 12 ⟨prime_by (f := 31) (by decide) (by decide) (by decide +kernel), by decide, by decide +kernel⟩ (by decide +kernel) rfl rfl (by decide +kernel)
theorem n_w65521 : Nmd "w65521" := nmd (p := 65521) 20 ⟨prime_by (f := 255) (by decide) (by decide) (by decide +kernel), by decide, by decide +kernel⟩ (by decide +kernel) rfl rfl (by decide +kernel)
theorem n_w31 : Nmd "w31" := nmd (p := 2147483647) 32 ⟨prime_m31, by decide, by decide +kernel⟩ (by decide +kernel) rfl rfl (by decide +kernel)
theorem n_p256 : Nmd "p256" := nmd (p := 115792089210356248762697446949407573530086143415290314195533631308867097853951) 256 ⟨pr_115792089210356248762697446949407573530086143415290314195533631308867097853951, by decide +kernel, by decide +kernel⟩ (by decide +kernel) rfl rfl (by decide +kernel)
theorem n_secp : Nmd "secp256k1" := nmd (p := 115792089237316195423570985008687907853269984665640564039457584007908834671663) 256 ⟨pr_115792089237316195423570985008687907853269984665640564039457584007908834671663, by decide +kernel, by decide +kernel⟩ (by decide +kernel) rfl rfl (by decide +kernel)
/-! ### the law -/
theorem zs_ord {M : Type} [Lean.Grind.AddCommGroup M] {n : Nat} {P : M} (h : nsm n P = 0) (f : Int) : zsm (f % n) P = zsm f P := by
  have e : f = f % n + f / n * n := by have := Int.emod_add_mul_ediv f n; rw [Int.mul_comm (f / n)]; omega
  have q : zsm (f % n + f / n * n) P = zsm f P := by rw [← e]
  rw [zsm_add, zsm_mul, zsm_nat, h, zsm_zero', g_add_zero] at q
  exact q
theorem gmul_ok {g : O_Group} {C : Cv} [hC : CvP C] {B : C.Pt} {n : Nat} (G : GpOk g C B n) {f : Int} (hf : f.natAbs < 2 ^ 16000000) (P : C.Pt) : m_Group_multiply g f (lf P) = .ok (lf (zsm f P)) := by
  unfold m_Group_multiply
  rw [G.cv]; exact multj_ok hf P
theorem law3_ok {g : O_Group} {C : Cv} [hC : CvP C] {B : C.Pt} {n : Nat} (G : GpOk g C B n) (ns : Ro Int) (s : Int) {f : Int} (hf : f.natAbs < 2 ^ 300) : m_law_k3 ns g (lf (zsm s B)) f = .ok true := by
  have up : ∀ {x : Int}, x.natAbs < 2 ^ 400 → x.natAbs < 2 ^ 16000000 := fun h => Nat.lt_of_lt_of_le h (Nat.pow_le_pow_right (by decide) (by decide))
  have big : (2 : Nat) ^ 300 + 2 ^ 257 < 2 ^ 400 := by decide +kernel
  have l300 : (2 : Nat) ^ 300 < 2 ^ 400 := by decide +kernel
  have hn := G.lt
  have hp := G.pos
  generalize hS : zsm s B = S
  have oS : nsm n S = 0 := by rw [← hS, ← zsm_nat, ← zsm_mul, Int.mul_comm, zsm_mul, zsm_nat, G.ord, zsm_zero']
  have m0 := multj_ok (C := C) (up (x := f) (by omega)) S
  have m1 := gmul_ok G (up (x := f) (by omega)) S
  have m2 := gmul_ok G (up (x := (n : Int)) (by omega)) S
  have e0 := Int.emod_nonneg f (show (n : Int) ≠ 0 by omega)
  have e1 := Int.emod_lt_of_pos f (show (0 : Int) < n by omega)
  have m3 := gmul_ok G (up (x := f % n) (by omega)) S
  have m4 := gmul_ok G (up (x := n - f) (by omega)) S
  rw [zsm_nat, oS] at m2
  rw [zs_ord oS] at m3
  rw [Int.sub_eq_add_neg, zsm_add, zsm_nat, oS, g_zero_add, zsm_neg] at m4
  have n2 : (toD (lf (0 : C.Pt))).isNon = true := rfl
  have ok : ∀ X Y : P2, (toD X).okq = true ∧ (toD Y).okq = true := fun X Y => ⟨okq_p2 X, okq_p2 Y⟩
  obtain ⟨c4, d4⟩ := cell_ex ns (show 0 ≤ (4 : Int) by decide)
  have hN : m_Group_negate g (lf (zsm f S)) = .ok (lf (-zsm f S)) := by
    unfold m_Group_negate
    rw [G.cv]; exact neg_ok _
  unfold m_law_k3 m_Group_has
  rw [← Int.sub_eq_add_neg] at m4
  simp only [Res.bind_ok, m1, G.cv, has_lf, Bool.not_true, cond_false, m0, Res.need_pos (ok _ _), pyEq_lf, decide_true, d4, mul_ok, cond_true, ite_self, G.od, m2, n2, Res.need_pos (show (0 : Int) < n by omega), m3, m4, hN]
  cases decide ((c4.natAbs : Int) % 3 = 0) <;> rfl
theorem law2_ok {g : O_Group} {C : Cv} [hC : CvP C] {B : C.Pt} {n : Nat} (G : GpOk g C B n) (ns : Ro Int) (s : Int) {f : Int} (hf : f.natAbs < 2 ^ 300) : m_law_k2 ns g (lf (zsm s B)) f = .ok true := by
  obtain ⟨c3, d3⟩ := cell_ex ns (show 0 ≤ (3 : Int) by decide)
  unfold m_law_k2
  simp only [Res.bind_ok, d3, law3_ok G ns s hf, law3_ok G ns s (show (-f).natAbs < 2 ^ 300 by rw [Int.natAbs_neg]; exact hf)]
  cases decide ((c3.natAbs : Int) % 3 = 2) <;> rfl
theorem law1_ok {g : O_Group} {C : Cv} [hC : CvP C] {B : C.Pt} {n : Nat} (G : GpOk g C B n) (ns : Ro Int) (hb : ∀ i ∈ ns.xs, Builtin.Int.intBits i ≤ 1048576) : m_law_k1 ns g = .ok true := by
  have hp := G.pos
  have hn := G.lt
  have e64 : (2 : Int) ^ (64 : Int).toNat = 18446744073709551616 := by decide +kernel
  have e128 : (18446744073709551616 * 18446744073709551616 : Int) = 340282366920938463463374607431768211456 := by decide +kernel
  have e192 : (340282366920938463463374607431768211456 * 18446744073709551616 : Int) = 6277101735386680763835789423207666416102355444464034512896 := by decide +kernel
  have e256 : (6277101735386680763835789423207666416102355444464034512896 * 18446744073709551616 : Int) = 115792089237316195423570985008687907853269984665640564039457584007913129639936 := by decide +kernel
  have x1 : CMulX 18446744073709551616 18446744073709551616 := cmulx (a := 65) (b := 65) (by decide +kernel) (by decide +kernel) (by decide)
  have x2 : CMulX 340282366920938463463374607431768211456 18446744073709551616 := cmulx (a := 129) (b := 65) (by decide +kernel) (by decide +kernel) (by decide)
  have x3 : CMulX 6277101735386680763835789423207666416102355444464034512896 18446744073709551616 := cmulx (a := 193) (b := 65) (by decide +kernel) (by decide +kernel) (by decide)
  have l1 : (115792089237316195423570985008687907853269984665640564039457584007913129639936 : Nat) < 2 ^ 300 := by decide +kernel
  have l2 : 3 * (2 : Nat) ^ 257 + 10 < 2 ^ 300 := by decide +kernel
  have d1 := cell_ok ns 1
  have d2 := cell_ok ns 2
  have d3 := cell_ok ns 3
  obtain ⟨n1, a1, _⟩ := number_ok (B := 1048576) (by decide) _ 1 (cell_bits hb 1)
  obtain ⟨n2, a2, _⟩ := number_ok (B := 1048576) (by decide) _ 2 (cell_bits hb 2)
  generalize ns.xs.getD 1 0 = c1 at *
  generalize ns.xs.getD 2 0 = c2 at *
  generalize ns.xs.getD 3 0 = c3 at *
  have d1 : m_u_law_cell ns 1 = .ok c1 := d1
  have d2 : m_u_law_cell ns 2 = .ok c2 := d2
  have d3 : m_u_law_cell ns 3 = .ok c3 := d3
  have s0 := Int.emod_nonneg (n1.natAbs : Int) (show (n : Int) ≠ 0 by omega)
  have s1 := Int.emod_lt_of_pos (n1.natAbs : Int) (show (0 : Int) < n by omega)
  have up : ∀ {x : Int}, x.natAbs < 2 ^ 257 → x.natAbs < 2 ^ 16000000 := fun h => Nat.lt_of_lt_of_le h (Nat.pow_le_pow_right (by decide) (by decide))
  have m1 := gmul_ok G (up (x := (n1.natAbs : Int) % n) (by omega)) B
  have t0 := Int.emod_nonneg n2 (show (115792089237316195423570985008687907853269984665640564039457584007913129639936 : Int) ≠ 0 by decide)
  have t1 := Int.emod_lt_of_pos n2 (show (0 : Int) < (115792089237316195423570985008687907853269984665640564039457584007913129639936 : Int) by decide)
  have u0 := Int.emod_nonneg ((c3.natAbs : Int) / 3) (show (3 : Int) ≠ 0 by decide)
  have u1 := Int.emod_lt_of_pos ((c3.natAbs : Int) / 3) (show (0 : Int) < 3 by decide)
  have v0 := Int.emod_nonneg ((c3.natAbs : Int) / 9) (show (5 : Int) ≠ 0 by decide)
  have v1 := Int.emod_lt_of_pos ((c3.natAbs : Int) / 9) (show (0 : Int) < 5 by decide)
  generalize hu : (c3.natAbs : Int) / 3 % 3 = u at *
  generalize hv : (c3.natAbs : Int) / 9 % 5 = v at *
  generalize ht : n2 % 115792089237316195423570985008687907853269984665640564039457584007913129639936 = t at *
  have x4 : CMulX (n : Int) u := cmulx (a := 257) (b := 8) (by omega) (by omega) (by decide)
  have w : (n * u + 2 - v : Int).natAbs < 2 ^ 300 := by
    rcases (by omega : u = 0 ∨ u = 1 ∨ u = 2) with rfl | rfl | rfl <;> omega
  have k1 := law2_ok G ns ((n1.natAbs : Int) % n) (f := t) (by omega)
  have k2 := law2_ok G ns ((n1.natAbs : Int) % n) w
  unfold m_law_k1
  simp only [Res.bind_ok, d1, d2, d3, a1, a2, G.od, Res.need_pos (show (0 : Int) < n by omega), G.bs, m1, e64, e128, e192, e256, Res.need_pos x1, Res.need_pos x2, Res.need_pos x3, Res.need_pos (show (0 : Int) < (115792089237316195423570985008687907853269984665640564039457584007913129639936 : Int) by decide), ht, hu, hv, Res.need_pos x4, k1, k2]
  cases decide ((c3.natAbs : Int) % 3 = 1) <;> rfl
theorem idx8 {z : Int} (h0 : 0 ≤ z) (h1 : z < 8) : ∃ x, idx ([("w11" : Str), ("w23" : Str), ("w43" : Str), ("w79" : Str), ("w251" : Str), ("w1021" : Str), ("w65521" : Str), ("w31" : Str)] : List Str) z = .ok x ∧ Nmd x := by
  rcases (by omega : z = 0 ∨ z = 1 ∨ z = 2 ∨ z = 3 ∨ z = 4 ∨ z = 5 ∨ z = 6 ∨ z = 7) with rfl | rfl | rfl | rfl | rfl | rfl | rfl | rfl
  · exact ⟨_, rfl, n_w11⟩
  · exact ⟨_, rfl, n_w23⟩
  · exact ⟨_, rfl, n_w43⟩
  · exact ⟨_, rfl, n_w79⟩
  · exact ⟨_, rfl, n_w251⟩
  · exact ⟨_, rfl, n_w1021⟩
  · exact ⟨_, rfl, n_w65521⟩
  · exact ⟨_, rfl, n_w31⟩
theorem idx2 {z : Int} (h0 : 0 ≤ z) (h1 : z < 2) : ∃ x, idx ([("p256" : Str), ("secp256k1" : Str)] : List Str) z = .ok x ∧ Nmd x := by
  rcases (by omega : z = 0 ∨ z = 1) with rfl | rfl
  · exact ⟨_, rfl, n_p256⟩
  · exact ⟨_, rfl, n_secp⟩
theorem law_true (ns : Ro Int) (hl : ns.xs.length ≤ 63) (hb : ∀ i ∈ ns.xs, Builtin.Int.intBits i ≤ 1048576) : m_law ns = .ok true := by
  obtain ⟨c0, d0⟩ := cell_ex ns (show 0 ≤ (0 : Int) by decide)
  have z0 := Int.emod_nonneg ((c0.natAbs : Int) / 4) (show (8 : Int) ≠ 0 by decide)
  have z1 := Int.emod_lt_of_pos ((c0.natAbs : Int) / 4) (show (0 : Int) < 8 by decide)
  have y0 := Int.emod_nonneg ((c0.natAbs : Int) / 8) (show (2 : Int) ≠ 0 by decide)
  have y1 := Int.emod_lt_of_pos ((c0.natAbs : Int) / 8) (show (0 : Int) < 2 by decide)
  obtain ⟨x, hx, g, hg, C, hC, B, n, G⟩ := idx8 z0 z1
  obtain ⟨x', hx', g', hg', C', hC', B', n', G'⟩ := idx2 y0 y1
  unfold m_law
  simp only [Res.bind_ok, d0, hx, hx', hg, hg', Un.asL, law1_ok G ns hb, law1_ok G' ns hb]
  cases decide ((c0.natAbs : Int) % 8 = 3) <;> rfl
end Mi
open PySem PySem.W PySem.Calls PyProof.Rows
theorem PySem.Challenge.cw_curveseal_k13_long_multiples_holds : PySem.Challenge.rw_curveseal_k13_long_multiples.Holds := by
  w_on; o_law
  refine HandSHeadRun.head_any (r := OpenLaw.row PySem.Challenge.rw_curveseal_k13_long_multiples) (q := view (OpenLaw.row PySem.Challenge.rw_curveseal_k13_long_multiples).prog [53]) (H := Mi.hk) (ob := Mi.ob) (M := 40000) (loose := (["bits_from_top", "multiply_by_bits", "is_whole", "is_residue", "is_residue_pair", "bezout", "inverse", "power", "square_class", "to_jacobian", "from_jacobian", "double_jacobian", "add_jacobian", "_scaled", "multiply_jacobian", "to_extended", "from_extended", "add_extended", "multiply_extended", "_byte_size", "group_kind", "group_named", "_law_cell", "_law_is_integer", "_law_number"] : List Str) ++ (["_wall", "CurveError", "OutOfRange", "Malformed", "NotAPoint", "NoInverse", "Refused", "EdwardsCurve", "GroupFields", "Group", "EdwardsGroup", "Curve", "INFINITY", "NEUTRAL", "NEUTRAL_FOUR", "WEIERSTRASS_NUMBERS", "EDWARDS_NUMBERS"] : List Str)) (d := HandSHeadRun.topDef (OpenLaw.row PySem.Challenge.rw_curveseal_k13_long_multiples).prog 53) (kwd := []) Mi.ob_eq
    (by kernel_rfl) (fun s => by kernel_rfl) Mi.run_ (by kernel_rfl) (by kernel_rfl) (by kernel_rfl) (by rfl) (by first | assumption | decide +kernel) (by decide +kernel) ⟨rfl, rfl, rfl, rfl, rfl, by decide +kernel⟩ ?hw ?hc
  case hw => w_witness2
  case hc =>
    refine Mi.walk_end (l := PySem.Challenge.rw_curveseal_k13_long_multiples) (n := 63) (k := 8) (x := "script") (m := Mi.m_law) rfl (by decide) (by kernel_rfl) ⟨rfl, by decide, by decide⟩ ?F (fun ns h1 h2 => Mi.law_true ⟨ns⟩ h1 h2)
    intro w mg fa h Y G hmg0
    obtain ⟨K, KX, c⟩ := Y
    have hmg : mg ("law" : PySem.Str) = some (.ref fa) := by
      have e : (HandSHeadRun.topDef (OpenLaw.row PySem.Challenge.rw_curveseal_k13_long_multiples).prog 53).name = ("law" : PySem.Str) := by kernel_rfl
      rw [← e]
      exact hmg0
    have T := Mi.facts_of KX G c
    have ea := hmg.symm.trans T.g_law
    cases ea
    obtain ⟨fd, FL⟩ := T.d_law
    have b := L2.FunD.bindsA (ps := ["script"]) FL fun _ _ _ _ _ _ us hl => match us, hl with | [_], _ => rfl
    exact ⟨K, fd, KX, fun s u => b s [u] rfl, fun base _ _ => Mi.ok_law T FL⟩
