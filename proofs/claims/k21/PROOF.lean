import PyProof.Rows.All
import Wide.All
import OpenK.AllK
import Wide.FinOn
import HandS.Base
import HandS.Call
import HandS.List
import HandS.Comp
import HandS.Ends
import HandS.Exc
import HandS.ExcOwn
import HandS.TryOnly
import HandS.ExcIs
import HandS.IsInst
import HandS.FStr
import HandS.RaiseMore
import HandS.Words
import HandS.WordsList
import HandS.WordsExc
import HandS.WideBits
import HandS.Iter
import HandS.Text
import HandS.Evl
import HandS.Head0
import HandS.Head1
import HandS.Head2
import HandS.HeadEnd
import HandS.HeadHook1
import HandS.HeadHook2
import HandS.HeadHook4
import HandS.EndBits
import HandS.Style
import PySem.Challenge.RW_curveseal_k21_shapes_of_a_curve
set_option Elab.async false
set_option linter.all false
set_option maxRecDepth 100000
set_option autoImplicit false
set_option maxHeartbeats 4000000
set_option maxHeartbeats 1000000
namespace Mi
open PySem PySem.Spec L2
open Evl (Ex)

/-! ### data -/
inductive D where
  | non | bl (b : Bool) | int (i : Int) | str (s : Str) | ty (n : String)
  | tup (xs : List D) | lst (xs : List D) | obj (c : Str) (ks : List Str) (ds : List D) | ro (xs : List D)

class ToD (α : Type) where
  d : α → D
abbrev toD {α : Type} [ToD α] (x : α) : D := ToD.d x
instance : ToD D := ⟨fun x => x⟩
instance : ToD Int := ⟨D.int⟩
instance : ToD Bool := ⟨D.bl⟩
instance : ToD Unit := ⟨fun _ => .non⟩
instance : ToD Str := ⟨D.str⟩
instance {α : Type} [ToD α] : ToD (List α) := ⟨fun xs => .lst (xs.map ToD.d)⟩
instance {α : Type} [ToD α] : ToD (Option α) := ⟨fun o => match o with | none => .non | some x => ToD.d x⟩
structure T1 (α : Type) where
  a : α
structure T2 (α β : Type) where
  a : α
  b : β
structure T3 (α β γ : Type) where
  a : α
  b : β
  c : γ
structure T4 (α β γ δ : Type) where
  a : α
  b : β
  c : γ
  e : δ
structure Ro (α : Type) where
  xs : List α
structure Tu (α : Type) where
  xs : List α
instance {α : Type} [ToD α] : ToD (T1 α) := ⟨fun x => .tup [ToD.d x.a]⟩
instance {α β : Type} [ToD α] [ToD β] : ToD (T2 α β) := ⟨fun x => .tup [ToD.d x.a, ToD.d x.b]⟩
instance {α β γ : Type} [ToD α] [ToD β] [ToD γ] : ToD (T3 α β γ) := ⟨fun x => .tup [ToD.d x.a, ToD.d x.b, ToD.d x.c]⟩
instance {α β γ δ : Type} [ToD α] [ToD β] [ToD γ] [ToD δ] : ToD (T4 α β γ δ) := ⟨fun x => .tup [ToD.d x.a, ToD.d x.b, ToD.d x.c, ToD.d x.e]⟩
instance {α : Type} [ToD α] : ToD (Ro α) := ⟨fun x => .ro (x.xs.map ToD.d)⟩
instance {α : Type} [ToD α] : ToD (Tu α) := ⟨fun x => .tup (x.xs.map ToD.d)⟩

mutual
def Rep (K : PySem.W.Frag) (F : Hp) : D → V → Prop
  | .non, v => v = .non
  | .bl b, v => v = .bl b
  | .int i, v => v = .int i
  | .str s, v => v = .str s
  | .ty n, v => v = .ty n
  | .tup ds, v => ∃ a vs, v = .ref a ∧ SqT K F a vs ∧ Reps K F ds vs
  | .lst ds, v => ∃ a vs, v = .ref a ∧ F a = some (.lst vs) ∧ Reps K F ds vs
  | .obj c ks ds, v => ∃ a dx vs, v = .ref a ∧ F a = some (.ins (He.ga K c) dx (ks.zip vs)) ∧ ks.length = vs.length ∧ Reps K F ds vs
  | .ro ds, v => ∃ a vs, v = .ref a ∧ SqL K F a vs ∧ Reps K F ds vs
def Reps (K : PySem.W.Frag) (F : Hp) : List D → List V → Prop
  | [], vs => vs = []
  | d :: ds, vs => ∃ v r, vs = v :: r ∧ Rep K F d v ∧ Reps K F ds r
end

theorem sq_ex {K : PySem.W.Frag} {F H : Hp} {a : Addr} {xs : List V} (e : Ex F H) (h : F a = some (.lst xs)) : SqL K H a xs := Or.inl (Or.inl (e _ _ h))
mutual
theorem Rep.mono {K : PySem.W.Frag} {F F' : Hp} (e : Ex F F') : ∀ (d : D) (v : V), Rep K F d v → Rep K F' d v
  | .non, v, h => h
  | .bl b, v, h => h
  | .int i, v, h => h
  | .str s, v, h => h
  | .ty n, v, h => h
  | .tup ds, v, h => by
    obtain ⟨a, vs, h1, h2, h3⟩ := h
    exact ⟨a, vs, h1, Evl.ex_t e h2, Reps.mono e ds vs h3⟩
  | .lst ds, v, h => by
    obtain ⟨a, vs, h1, h2, h3⟩ := h
    exact ⟨a, vs, h1, e _ _ h2, Reps.mono e ds vs h3⟩
  | .obj c ks ds, v, h => by
    obtain ⟨a, dx, vs, h1, h2, h3, h4⟩ := h
    exact ⟨a, dx, vs, h1, e _ _ h2, h3, Reps.mono e ds vs h4⟩
  | .ro ds, v, h => by
    obtain ⟨a, vs, h1, h2, h3⟩ := h
    exact ⟨a, vs, h1, Evl.ex_l e h2, Reps.mono e ds vs h3⟩
theorem Reps.mono {K : PySem.W.Frag} {F F' : Hp} (e : Ex F F') : ∀ (ds : List D) (vs : List V), Reps K F ds vs → Reps K F' ds vs
  | [], vs, h => h
  | d :: ds, vs, h => by
    obtain ⟨v, r, h1, h2, h3⟩ := h
    exact ⟨v, r, h1, Rep.mono e d v h2, Reps.mono e ds r h3⟩
end
section
variable {K : PySem.W.Frag} {F F' H H' H1 : Hp}
theorem Reps.length : ∀ {ds : List D} {vs : List V}, Reps K F ds vs → ds.length = vs.length
  | [], vs, h => by rw [show vs = [] from h]; rfl
  | d :: ds, vs, h => by
    obtain ⟨v, r, rfl, _, h3⟩ := h
    simp [Reps.length h3]
theorem Reps.get : ∀ {ds : List D} {vs : List V} {i : Nat} {e : D}, Reps K F ds vs → ds[i]? = some e → ∃ v, vs[i]? = some v ∧ Rep K F e v
  | [], vs, i, e, h, q => by simp at q
  | d :: ds, vs, 0, e, h, q => by
    obtain ⟨v, r, rfl, h2, h3⟩ := h
    simp at q; subst q
    exact ⟨v, rfl, h2⟩
  | d :: ds, vs, i + 1, e, h, q => by
    obtain ⟨v, r, rfl, h2, h3⟩ := h
    simp at q
    obtain ⟨w, a, b⟩ := Reps.get h3 q
    exact ⟨w, by simpa using a, b⟩
theorem Reps.append : ∀ {ds es : List D} {vs ws : List V}, Reps K F ds vs → Reps K F es ws → Reps K F (ds ++ es) (vs ++ ws)
  | [], es, vs, ws, h, q => by rw [show vs = [] from h]; exact q
  | d :: ds, es, vs, ws, h, q => by
    obtain ⟨v, r, rfl, h2, h3⟩ := h
    exact ⟨v, r ++ ws, rfl, h2, Reps.append h3 q⟩
theorem Reps.one {e : D} {v : V} (h : Rep K F e v) : Reps K F [e] [v] := ⟨v, [], rfl, h, rfl⟩
theorem Reps.set : ∀ {ds : List D} {vs : List V} (i : Nat) {e : D} {v : V}, Reps K F ds vs → Rep K F e v → Reps K F (ds.set i e) (vs.set i v)
  | [], vs, i, e, v, h, q => by rw [show vs = [] from h]; exact rfl
  | d :: ds, vs, 0, e, v, h, q => by
    obtain ⟨w, r, rfl, h2, h3⟩ := h
    exact ⟨v, r, rfl, q, h3⟩
  | d :: ds, vs, i + 1, e, v, h, q => by
    obtain ⟨w, r, rfl, h2, h3⟩ := h
    exact ⟨w, r.set i v, rfl, h2, Reps.set i h3 q⟩
theorem Reps.drop : ∀ {ds : List D} {vs : List V} (i : Nat), Reps K F ds vs → Reps K F (ds.drop i) (vs.drop i)
  | [], vs, i, h => by rw [show vs = [] from h]; simp [Reps]
  | d :: ds, vs, 0, h => h
  | d :: ds, vs, i + 1, h => by
    obtain ⟨w, r, rfl, h2, h3⟩ := h
    exact Reps.drop i h3
theorem Reps.take : ∀ {ds : List D} {vs : List V} (i : Nat), Reps K F ds vs → Reps K F (ds.take i) (vs.take i)
  | [], vs, i, h => by rw [show vs = [] from h]; simp [Reps]
  | d :: ds, vs, 0, h => by simp [Reps]
  | d :: ds, vs, i + 1, h => by
    obtain ⟨w, r, rfl, h2, h3⟩ := h
    exact ⟨w, r.take i, rfl, h2, Reps.take i h3⟩
theorem Reps.dropLast {ds : List D} {vs : List V} (h : Reps K F ds vs) : Reps K F ds.dropLast vs.dropLast := by
  rw [List.dropLast_eq_take, List.dropLast_eq_take, h.length]
  exact Reps.take _ h
theorem Reps.reverse : ∀ {ds : List D} {vs : List V}, Reps K F ds vs → Reps K F ds.reverse vs.reverse
  | [], vs, h => by rw [show vs = [] from h]; simp [Reps]
  | d :: ds, vs, h => by
    obtain ⟨w, r, rfl, h2, h3⟩ := h
    rw [List.reverse_cons, List.reverse_cons]
    exact Reps.append (Reps.reverse h3) (Reps.one h2)
theorem Reps.ints : ∀ {ns : List Int} {vs : List V}, Reps K F (ns.map D.int) vs → vs = ns.map V.int
  | [], vs, h => h
  | n :: ns, vs, h => by
    obtain ⟨w, r, rfl, h2, h3⟩ := h
    rw [show w = V.int n from h2, Reps.ints h3]; rfl
theorem Reps.of_ints : ∀ (ns : List Int), Reps K F (ns.map D.int) (ns.map V.int)
  | [] => rfl
  | n :: ns => ⟨_, _, rfl, rfl, Reps.of_ints ns⟩
theorem Reps.bls : ∀ {ns : List Bool} {vs : List V}, Reps K F (ns.map D.bl) vs → vs = ns.map V.bl
  | [], vs, h => h
  | n :: ns, vs, h => by
    obtain ⟨w, r, rfl, h2, h3⟩ := h
    rw [show w = V.bl n from h2, Reps.bls h3]; rfl
theorem Reps.strs : ∀ {ns : List Str} {vs : List V}, Reps K F (ns.map D.str) vs → vs = ns.map V.str
  | [], vs, h => h
  | n :: ns, vs, h => by
    obtain ⟨w, r, rfl, h2, h3⟩ := h
    rw [show w = V.str n from h2, Reps.strs h3]; rfl

/-! ### how the heap goes on -/
structure Adv (F H F' H' : Hp) : Prop where
  f : Ex F F'
  h : Ex H H'
  in_ : Ex F' H'
  out : ∀ p, F p = none → H p ≠ none → F' p = none
theorem Adv.refl (e : Ex F H) : Adv F H F H := ⟨Ex.refl F, Ex.refl H, e, fun _ h _ => h⟩
theorem Adv.trans {F1 H1 F2 H2 F3 H3 : Hp} (a : Adv F1 H1 F2 H2) (b : Adv F2 H2 F3 H3) : Adv F1 H1 F3 H3 :=
  ⟨a.f.trans b.f, a.h.trans b.h, b.in_, fun p h1 h2 => b.out p (a.out p h1 h2) fun z => h2 (Evl.fresh_back a.h z)⟩
theorem none_of_ex (e : Ex F H) {p : Addr} (h : H p = none) : F p = none := Evl.fresh_back e h
theorem Adv.new {p : Addr} {o : HO} (e : Ex F H) (h : H p = none) : Adv F H (upd F p o) (upd H p o) := by
  refine ⟨Ex.new (none_of_ex e h), Ex.new h, fun a u q => ?_, fun q h1 h2 => ?_⟩
  · by_cases z : a = p
    · subst z; rw [upd_same] at q ⊢; exact q
    · rw [upd_ne z] at q ⊢; exact e a u q
  · have z : q ≠ p := fun z => h2 (by rw [z]; exact h)
    rw [upd_ne z]; exact h1
/-- a new object, not frozen -/
theorem Adv.newO {p : Addr} {o : HO} (e : Ex F H) (h : H p = none) : Adv F H F (upd H p o) :=
  ⟨Ex.refl F, Ex.new h, fun a u q => (Ex.new h) a u (e a u q), fun _ h1 _ => h1⟩
end

/-! ### what a def gives -/
inductive Res (α : Type) where
  | ok (x : α) | exc (c : Str) | stuck
namespace Res
def bind {α β : Type} : Res α → (α → Res β) → Res β
  | .ok x, f => f x
  | .exc c, _ => .exc c
  | .stuck, _ => .stuck
theorem bind_ok {α β : Type} (x : α) (f : α → Res β) : (Res.ok x).bind f = f x := rfl
theorem bind_exc {α β : Type} (c : Str) (f : α → Res β) : (Res.exc c : Res α).bind f = .exc c := rfl
theorem bind_stuck {α β : Type} (f : α → Res β) : (Res.stuck : Res α).bind f = .stuck := rfl
theorem bind_assoc {α β γ : Type} (m : Res α) (f : α → Res β) (g : β → Res γ) : (m.bind f).bind g = m.bind fun x => (f x).bind g := by
  cases m <;> rfl
theorem bind_pure {α : Type} (m : Res α) : m.bind Res.ok = m := by cases m <;> rfl
/-- a condition that must hold -/
@[irreducible] noncomputable def need {α : Type} (p : Prop) (m : Res α) : Res α := @ite _ p (Classical.propDecidable p) m .stuck
theorem need_pos {α : Type} {p : Prop} {m : Res α} (h : p) : need p m = m := by unfold need; exact if_pos h
theorem need_neg {α : Type} {p : Prop} {m : Res α} (h : ¬ p) : need p m = .stuck := by unfold need; exact if_neg h
def map {α β : Type} (f : α → β) (m : Res α) : Res β := m.bind fun x => .ok (f x)
end Res

/-! ### slots -/
inductive Sk where
  | im (e : D) | ow (xs : List D) | raw (v : V) | oi (p : Option Addr) (c : Str) (ks : List Str) (ds : List D)
/-- what only this frame knows -/
def Sk.own : Sk → Bool
  | .ow _ => true
  | .oi _ _ _ _ => true
  | _ => false
abbrev En := List (Option Sk)
def SkOk (K : PySem.W.Frag) (H0 F H : Hp) : Sk → V → Prop
  | .im e, v => Rep K F e v
  | .ow xs, v => ∃ p vs, v = .ref p ∧ H0 p = none ∧ F p = none ∧ H p = some (.lst vs) ∧ Reps K F xs vs
  | .raw w, v => v = w
  | .oi pp c ks ds, v => ∃ p dx vs, v = .ref p ∧ H0 p = none ∧ F p = none ∧ H p = some (.ins (He.ga K c) dx (ks.zip vs)) ∧ ks.length = vs.length ∧ Reps K F ds vs ∧ ∀ a, pp = some a → p = a
structure Sl (K : PySem.W.Frag) (F0 H0 F H : Hp) (σ : L2.St) (env : En) : Prop where
  adv : Adv F0 H0 F H
  slot : ∀ (i : Nat) (sk : Sk), env[i]? = some (some sk) → ∃ v, σ[i]? = some (some v) ∧ SkOk K H0 F H sk v
  dis : ∀ (i j : Nat) (sk sk' : Sk) (p : Addr), i ≠ j → env[i]? = some (some sk) → env[j]? = some (some sk') → sk.own = true → sk'.own = true → σ[i]? = some (some (.ref p)) → σ[j]? ≠ some (some (.ref p))
  len : σ.length = env.length
section
variable {K : PySem.W.Frag} {F0 H0 F H F' H' : Hp} {σ : L2.St} {env : En}
theorem Sl.ex (S : Sl K F0 H0 F H σ env) : Ex F H := S.adv.in_
theorem SkOk.adv {sk : Sk} {v : V} (a : Adv F H F' H') (h : SkOk K H0 F H sk v) : SkOk K H0 F' H' sk v := by
  cases sk with
  | im e => exact Rep.mono a.f _ _ h
  | ow xs =>
    obtain ⟨p, vs, e1, e2, e3, e4, e5⟩ := h
    exact ⟨p, vs, e1, e2, a.out p e3 (by rw [e4]; simp), a.h _ _ e4, Reps.mono a.f _ _ e5⟩
  | raw w => exact h
  | oi pp c ks ds =>
    obtain ⟨p, dx, vs, e1, e2, e3, e4, e5, e6, e7⟩ := h
    exact ⟨p, dx, vs, e1, e2, a.out p e3 (by rw [e4]; simp), a.h _ _ e4, e5, Reps.mono a.f _ _ e6, e7⟩
theorem SkOk.at {sk : Sk} {v : V} (ho : sk.own = true) (h : SkOk K H0 F H sk v) : ∃ p o, v = .ref p ∧ H0 p = none ∧ F p = none ∧ H p = some o := by
  cases sk with
  | im e => cases ho
  | raw w => cases ho
  | ow xs =>
    obtain ⟨p, vs, e1, e2, e3, e4, e5⟩ := h
    exact ⟨p, _, e1, e2, e3, e4⟩
  | oi pp c ks ds =>
    obtain ⟨p, dx, vs, e1, e2, e3, e4, e5, e6, e7⟩ := h
    exact ⟨p, _, e1, e2, e3, e4⟩
theorem SkOk.updH {sk : Sk} {v : V} {p : Addr} {o : HO} (hn : sk.own = true → v ≠ .ref p) (h : SkOk K H0 F H sk v) : SkOk K H0 F (upd H p o) sk v := by
  cases sk with
  | im e => exact h
  | raw w => exact h
  | ow xs =>
    obtain ⟨q, vs, e1, e2, e3, e4, e5⟩ := h
    have hne : q ≠ p := fun z => hn rfl (by rw [e1, z])
    exact ⟨q, vs, e1, e2, e3, by rw [upd_ne hne]; exact e4, e5⟩
  | oi pp c ks ds =>
    obtain ⟨q, dx, vs, e1, e2, e3, e4, e5, e6, e7⟩ := h
    have hne : q ≠ p := fun z => hn rfl (by rw [e1, z])
    exact ⟨q, dx, vs, e1, e2, e3, by rw [upd_ne hne]; exact e4, e5, e6, e7⟩
theorem SkOk.updF {sk : Sk} {v : V} {p : Addr} {o : HO} (hf : F p = none) (hn : sk.own = true → v ≠ .ref p) (h : SkOk K H0 F H sk v) : SkOk K H0 (upd F p o) H sk v := by
  have ad : Ex F (upd F p o) := Ex.new hf
  cases sk with
  | im e => exact Rep.mono ad _ _ h
  | raw w => exact h
  | ow xs =>
    obtain ⟨q, vs, e1, e2, e3, e4, e5⟩ := h
    have hne : q ≠ p := fun z => hn rfl (by rw [e1, z])
    exact ⟨q, vs, e1, e2, by rw [upd_ne hne]; exact e3, e4, Reps.mono ad _ _ e5⟩
  | oi pp c ks ds =>
    obtain ⟨q, dx, vs, e1, e2, e3, e4, e5, e6, e7⟩ := h
    have hne : q ≠ p := fun z => hn rfl (by rw [e1, z])
    exact ⟨q, dx, vs, e1, e2, by rw [upd_ne hne]; exact e3, e4, e5, Reps.mono ad _ _ e6, e7⟩
theorem Sl.step (S : Sl K F0 H0 F H σ env) (a : Adv F H F' H') : Sl K F0 H0 F' H' σ env := by
  refine ⟨S.adv.trans a, fun i sk e => ?_, S.dis, S.len⟩
  obtain ⟨v, h1, h2⟩ := S.slot i sk e
  exact ⟨v, h1, h2.adv a⟩
theorem set_get {α : Type} {l : List α} {i j : Nat} {x y : α} (h : (l.set i x)[j]? = some y) : (i = j ∧ x = y) ∨ (i ≠ j ∧ l[j]? = some y) := by
  rw [List.getElem?_set] at h
  by_cases e : i = j
  · rw [if_pos e] at h
    split at h
    · exact .inl ⟨e, Option.some.inj h⟩
    · cases h
  · rw [if_neg e] at h
    exact .inr ⟨e, h⟩
theorem set_len {α : Type} {l : List α} {i : Nat} {x y : α} (h : (l.set i x)[i]? = some y) : i < l.length := by
  have h := (List.getElem?_eq_some_iff.mp h).1
  rwa [List.length_set] at h
theorem Sl.setIm (S : Sl K F0 H0 F H σ env) {i : Nat} {e : D} {v : V} (r : Rep K F e v) : Sl K F0 H0 F H (σ.set i (some v)) (env.set i (some (.im e))) := by
  refine ⟨S.adv, fun j sk q => ?_, fun j k sk sk' p hjk e1 e2 o1 o2 h1 => ?_, by rw [List.length_set, List.length_set]; exact S.len⟩
  · rcases set_get q with ⟨rfl, z⟩ | ⟨z, q⟩
    · cases z
      refine ⟨v, ?_, r⟩
      have hi : i < env.length := set_len q
      rw [List.getElem?_set_self (by rw [S.len]; exact hi)]
    · obtain ⟨w, h1, h2⟩ := S.slot j sk q
      exact ⟨w, by rw [List.getElem?_set_ne z]; exact h1, h2⟩
  · rcases set_get e1 with ⟨_, z⟩ | ⟨z1, e1⟩
    · cases z; cases o1
    rcases set_get e2 with ⟨_, z⟩ | ⟨z2, e2⟩
    · cases z; cases o2
    rw [List.getElem?_set_ne z1] at h1
    rw [List.getElem?_set_ne z2]
    exact S.dis j k sk sk' p hjk e1 e2 o1 o2 h1
/-- a new owned object -/
theorem Sl.setOwn (S : Sl K F0 H0 F H σ env) {i : Nat} {p : Addr} {sk : Sk} (hs : SkOk K H0 F H sk (.ref p)) (hn : ∀ (j : Nat) (sk' : Sk), env[j]? = some (some sk') → sk'.own = true → σ[j]? ≠ some (some (V.ref p))) :
    Sl K F0 H0 F H (σ.set i (some (.ref p))) (env.set i (some sk)) := by
  refine ⟨S.adv, fun j sk q => ?_, fun j k sk1 sk2 p' hjk e1 e2 o1 o2 h1 => ?_, by rw [List.length_set, List.length_set]; exact S.len⟩
  · rcases set_get q with ⟨rfl, z⟩ | ⟨z, q⟩
    · cases z
      refine ⟨_, ?_, hs⟩
      have hi : i < env.length := set_len q
      rw [List.getElem?_set_self (by rw [S.len]; exact hi)]
    · obtain ⟨w, h1, h2⟩ := S.slot j sk q
      exact ⟨w, by rw [List.getElem?_set_ne z]; exact h1, h2⟩
  · rcases set_get e1 with ⟨z0, z⟩ | ⟨z1, e1⟩
    · rcases set_get e2 with ⟨z2, _⟩ | ⟨z2, e2⟩
      · exact absurd (z0.symm.trans z2) hjk
      · subst z0
        rw [List.getElem?_set_ne z2]
        have hi : i < σ.length := set_len h1
        rw [List.getElem?_set_self hi] at h1
        cases h1
        exact hn k sk2 e2 o2
    · rw [List.getElem?_set_ne z1] at h1
      rcases set_get e2 with ⟨z2, z⟩ | ⟨z2, e2⟩
      · subst z2
        intro q
        have hi : i < σ.length := set_len q
        rw [List.getElem?_set_self hi] at q
        cases q
        exact hn j sk1 e1 o1 h1
      · rw [List.getElem?_set_ne z2]
        exact S.dis j k sk1 sk2 p' hjk e1 e2 o1 o2 h1
theorem Sl.setOw (S : Sl K F0 H0 F H σ env) {i : Nat} {p : Addr} {xs : List D} {vs : List V} (h0 : H0 p = none) (hf : F p = none) (hp : H p = some (.lst vs)) (hn : ∀ (j : Nat) (sk' : Sk), env[j]? = some (some sk') → sk'.own = true → σ[j]? ≠ some (some (V.ref p))) (r : Reps K F xs vs) :
    Sl K F0 H0 F H (σ.set i (some (.ref p))) (env.set i (some (.ow xs))) := S.setOwn ⟨p, vs, rfl, h0, hf, hp, r⟩ hn
/-- an owned object changes -/
theorem Sl.chgO (S : Sl K F0 H0 F H σ env) {i : Nat} {p : Addr} {sk sk' : Sk} {o : HO} (e : env[i]? = some (some sk)) (ho : sk.own = true) (hs : σ[i]? = some (some (.ref p))) (hp : F p = none) (h0 : H0 p = none) (hk : SkOk K H0 F (upd H p o) sk' (.ref p)) :
    Sl K F0 H0 F (upd H p o) σ (env.set i (some sk')) := by
  refine ⟨⟨S.adv.f, fun a u q => ?_, fun a u q => ?_, S.adv.out⟩, fun j sk q => ?_, fun j k sk1 sk2 p' hjk e1 e2 o1 o2 h1 => ?_, by rw [List.length_set]; exact S.len⟩
  · rw [upd_ne (ne_of_none q h0)]; exact S.adv.h a u q
  · rw [upd_ne (ne_of_none q hp)]; exact S.adv.in_ a u q
  · rcases set_get q with ⟨rfl, z⟩ | ⟨z, q⟩
    · cases z
      exact ⟨_, hs, hk⟩
    · obtain ⟨w, h1, h2⟩ := S.slot j sk q
      exact ⟨w, h1, h2.updH fun o2 zz => S.dis i j _ _ p z e q ho o2 hs (by rw [h1, zz])⟩
  · have own : ∀ {j : Nat} {s : Sk}, (env.set i (some sk'))[j]? = some (some s) → s.own = true → ∃ s', env[j]? = some (some s') ∧ s'.own = true := by
      intro j s q o
      rcases set_get q with ⟨rfl, _⟩ | ⟨_, q⟩
      · exact ⟨_, e, ho⟩
      · exact ⟨_, q, o⟩
    obtain ⟨_, q1, r1⟩ := own e1 o1
    obtain ⟨_, q2, r2⟩ := own e2 o2
    exact S.dis j k _ _ p' hjk q1 q2 r1 r2 h1
theorem Sl.chg (S : Sl K F0 H0 F H σ env) {i : Nat} {p : Addr} {xs ys : List D} {ws : List V} (e : env[i]? = some (some (.ow xs))) (hs : σ[i]? = some (some (.ref p))) (hp : F p = none) (h0 : H0 p = none) (r : Reps K F ys ws) :
    Sl K F0 H0 F (upd H p (.lst ws)) σ (env.set i (some (.ow ys))) := S.chgO e rfl hs hp h0 ⟨p, ws, rfl, h0, hp, upd_same, r⟩
/-- an owned object is frozen -/
theorem Sl.freezeO (S : Sl K F0 H0 F H σ env) {i : Nat} {sk : Sk} {d : D} (e : env[i]? = some (some sk)) (ho : sk.own = true) (hd : ∀ p o, SkOk K H0 F H sk (.ref p) → H p = some o → F p = none → Rep K (upd F p o) d (.ref p)) : ∃ F', Ex F F' ∧ Sl K F0 H0 F' H σ (env.set i (some (.im d))) := by
  obtain ⟨v, hs, hk⟩ := S.slot i _ e
  obtain ⟨p, o, rfl, h0, hf, hp⟩ := hk.at ho
  have ad : Ex F (upd F p o) := Ex.new hf
  have inn : Ex (upd F p o) H := fun a u q => by
    by_cases z : a = p
    · subst z; rw [upd_same] at q; cases q; exact hp
    · rw [upd_ne z] at q; exact S.ex a u q
  refine ⟨upd F p o, ad, ⟨⟨S.adv.f.trans ad, S.adv.h, inn, fun a h1 h2 => ?_⟩, fun j sk q => ?_, fun j k sk1 sk2 p' hjk e1 e2 o1 o2 h1 => ?_, by rw [List.length_set]; exact S.len⟩⟩
  · have z : a ≠ p := fun z => h2 (by rw [z]; exact h0)
    rw [upd_ne z]; exact S.adv.out a h1 h2
  · rcases set_get q with ⟨rfl, z⟩ | ⟨z, q⟩
    · cases z
      exact ⟨_, hs, hd p o hk hp hf⟩
    · obtain ⟨w, h1, h2⟩ := S.slot j sk q
      exact ⟨w, h1, h2.updF hf fun o2 zz => S.dis i j _ _ p z e q ho o2 hs (by rw [h1, zz])⟩
  · have own : ∀ {j : Nat} {s : Sk}, (env.set i (some (.im d)))[j]? = some (some s) → s.own = true → env[j]? = some (some s) := by
      intro j s q o
      rcases set_get q with ⟨rfl, z⟩ | ⟨_, q⟩
      · cases z; cases o
      · exact q
    exact S.dis j k _ _ p' hjk (own e1 o1) (own e2 o2) o1 o2 h1
theorem Sl.freeze (S : Sl K F0 H0 F H σ env) {i : Nat} {xs : List D} (e : env[i]? = some (some (.ow xs))) : ∃ F', Ex F F' ∧ Sl K F0 H0 F' H σ (env.set i (some (.im (.lst xs)))) :=
  S.freezeO e rfl fun p o h hp hf => by
    obtain ⟨q, vs, e1, _, _, e4, e5⟩ := h
    cases e1
    rw [hp] at e4; cases e4
    exact ⟨_, vs, rfl, upd_same, Reps.mono (Ex.new hf) _ _ e5⟩
theorem Sl.freezeI (S : Sl K F0 H0 F H σ env) {i : Nat} {pp : Option Addr} {c : Str} {ks : List Str} {ds : List D} (e : env[i]? = some (some (.oi pp c ks ds))) : ∃ F', Ex F F' ∧ Sl K F0 H0 F' H σ (env.set i (some (.im (.obj c ks ds)))) :=
  S.freezeO e rfl fun p o h hp hf => by
    obtain ⟨q, dx, vs, e1, _, _, e4, e5, e6, _⟩ := h
    cases e1
    rw [hp] at e4; cases e4
    exact ⟨_, dx, vs, rfl, upd_same, e5, Reps.mono (Ex.new hf) _ _ e6⟩
end
end Mi
set_option maxHeartbeats 1000000
namespace Mi
open PySem PySem.Spec L2
open Evl (Ex)

class ToDs (β : Type) where
  ds : β → List D
instance : ToDs Unit := ⟨fun _ => []⟩
instance {α β : Type} [ToD α] [ToDs β] : ToDs (α × β) := ⟨fun p => ToD.d p.1 :: ToDs.ds p.2⟩

/-! ### what follows a value -/
section
variable (K : PySem.W.Frag) (W : WX) (F H : Hp) (σ : L2.St)
def KE {α : Type} [ToD α] (Q : VK) : Res α → Prop
  | .ok x => ∀ v F' H', Adv F H F' H' → Rep K F' (toD x) v → Q v H'
  | .exc c => ∀ F' H', Adv F H F' H' → W (.ref (He.ga K c)) none σ H'
  | .stuck => False
def KA {β : Type} [ToDs β] (Q : List V → Hp → Prop) : Res β → Prop
  | .ok x => ∀ vs F' H', Adv F H F' H' → Reps K F' (ToDs.ds x) vs → Q vs H'
  | .exc c => ∀ F' H', Adv F H F' H' → W (.ref (He.ga K c)) none σ H'
  | .stuck => False
def KT (Q : Bool → Hp → Prop) : Res Bool → Prop
  | .ok b => ∀ F' H', Adv F H F' H' → Q b H'
  | .exc c => ∀ F' H', Adv F H F' H' → W (.ref (He.ga K c)) none σ H'
  | .stuck => False
def KN {α : Type} [ToD α] (Q : VK) : Res (List α) → Prop
  | .ok xs => ∀ p vs F' H', Adv F H F' H' → H p = none → F' p = none → H' p = some (.lst vs) → Reps K F' (xs.map toD) vs → Q (.ref p) H'
  | .exc c => ∀ F' H', Adv F H F' H' → W (.ref (He.ga K c)) none σ H'
  | .stuck => False
end
def EvX (K : PySem.W.Frag) (W : WX) (env : En) (te : TE) {α : Type} [ToD α] (m : Res α) : Prop :=
  ∀ F0 H0 F H σ Q, Sl K F0 H0 F H σ env → KE K W F H σ Q m → te σ H Q
def EvA (K : PySem.W.Frag) (W : WX) (env : En) (ta : TA) {β : Type} [ToDs β] (m : Res β) : Prop :=
  ∀ F0 H0 F H σ Q, Sl K F0 H0 F H σ env → KA K W F H σ Q m → ta σ H Q
def EvT (K : PySem.W.Frag) (W : WX) (env : En) (tt : TT) (m : Res Bool) : Prop :=
  ∀ F0 H0 F H σ Q, Sl K F0 H0 F H σ env → KT K W F H σ Q m → tt σ H Q
def EvN (K : PySem.W.Frag) (W : WX) (env : En) (te : TE) {α : Type} [ToD α] (m : Res (List α)) : Prop :=
  ∀ F0 H0 F H σ Q, Sl K F0 H0 F H σ env → KN K W F H σ Q m → te σ H Q

section
variable {K : PySem.W.Frag} {W : WX} {F H F' H' : Hp} {σ : L2.St} {env : En} {α β γ τ : Type} [ToD α] [ToD β] [ToD γ] [ToD τ] {ta tb te tc : TE} {tt tu : TT} {r : R2}

/-- from what follows a whole to what follows its first part -/
theorem KE.cut {Q : VK} {Q1 : VK} {m : Res α} {f : α → Res β} (ex : Ex F H) (h : KE K W F H σ Q (m.bind f))
    (k : ∀ x v F' H', m = .ok x → Adv F H F' H' → Rep K F' (toD x) v → KE K W F' H' σ Q (f x) → Q1 v H') : KE K W F H σ Q1 m := by
  cases m with
  | ok x =>
    intro v F1 H1 a r
    refine k x v F1 H1 rfl a r ?_
    have h : KE K W F H σ Q (f x) := h
    revert h
    generalize f x = y
    intro h
    cases y with
    | ok y => exact fun v F2 H2 b q => h v F2 H2 (a.trans b) q
    | exc c => exact fun F2 H2 b => h F2 H2 (a.trans b)
    | stuck => exact h.elim
  | exc c => exact h
  | stuck => exact h.elim
theorem KE.adv {Q : VK} {m : Res β} (a : Adv F H F' H') (h : KE K W F H σ Q m) : KE K W F' H' σ Q m := by
  cases m with
  | ok y => exact fun v F2 H2 b q => h v F2 H2 (a.trans b) q
  | exc c => exact fun F2 H2 b => h F2 H2 (a.trans b)
  | stuck => exact h.elim
theorem KT.adv {Q : Bool → Hp → Prop} {m : Res Bool} (a : Adv F H F' H') (h : KT K W F H σ Q m) : KT K W F' H' σ Q m := by
  cases m with
  | ok y => exact fun F2 H2 b => h F2 H2 (a.trans b)
  | exc c => exact fun F2 H2 b => h F2 H2 (a.trans b)
  | stuck => exact h.elim
theorem KA.adv {δ : Type} [ToDs δ] {Q : List V → Hp → Prop} {m : Res δ} (a : Adv F H F' H') (h : KA K W F H σ Q m) : KA K W F' H' σ Q m := by
  cases m with
  | ok y => exact fun v F2 H2 b q => h v F2 H2 (a.trans b) q
  | exc c => exact fun F2 H2 b => h F2 H2 (a.trans b)
  | stuck => exact h.elim

/-- general: te then a use of its value -/
theorem use {Q Q1 : VK} {m : Res α} {F0 H0 : Hp} (hv : EvX K W env te m) (S : Sl K F0 H0 F H σ env)
    (hx : ∀ c, m = .exc c → ∀ F' H', Adv F H F' H' → W (.ref (He.ga K c)) none σ H') (hs : m ≠ .stuck)
    (k : ∀ x v F' H', m = .ok x → Adv F H F' H' → Rep K F' (toD x) v → Q1 v H') : te σ H Q1 := by
  refine hv F0 H0 F H σ Q1 S ?_
  cases m with
  | ok x => exact fun v F' H' a q => k x v F' H' rfl a q
  | exc c => exact hx c rfl
  | stuck => exact hs rfl

/-! ### names and constants -/
theorem ev_var {i : Nat} {x : α} (h : env[i]? = some (some (.im (toD x)))) : EvX K W env (tVar i) (.ok x) := fun F0 H0 F H σ Q S k => by
  obtain ⟨v, e, q⟩ := S.slot i _ h
  exact ⟨v, e, k v F H (Adv.refl S.ex) q⟩
theorem ev_int {i : Int} : EvX K W env (tC (.int i)) (.ok i) := fun F0 H0 F H σ Q S k => k _ F H (Adv.refl S.ex) rfl
theorem ev_bl {b : Bool} : EvX K W env (tC (.bl b)) (.ok b) := fun F0 H0 F H σ Q S k => k _ F H (Adv.refl S.ex) rfl
theorem ev_str {x : Str} : EvX K W env (tC (.str x)) (.ok x) := fun F0 H0 F H σ Q S k => k _ F H (Adv.refl S.ex) rfl
theorem ev_non : EvX K W env (tC .non) (.ok ()) := fun F0 H0 F H σ Q S k => k _ F H (Adv.refl S.ex) rfl
theorem ev_noneO : EvX K W env (tC .non) (.ok (none : Option α)) := fun F0 H0 F H σ Q S k => k _ F H (Adv.refl S.ex) rfl
theorem ev_tyc {n : String} : EvX K W env (tC (.ty n)) (.ok (D.ty n)) := fun F0 H0 F H σ Q S k => k _ F H (Adv.refl S.ex) rfl
/-- the same value in another type -/
theorem ev_as {m : Res α} {m' : Res β} (h : EvX K W env te m) (f : α → β) (e : ∀ x, toD (f x) = toD x) (em : m.bind (fun x => .ok (f x)) = m') : EvX K W env te m' := fun F0 H0 F H σ Q S k => by
  refine h F0 H0 F H σ Q S ?_
  subst em
  cases m with
  | ok x => intro v F' H' a q; exact k v F' H' a (by rw [e]; exact q)
  | exc c => exact k
  | stuck => exact k.elim

/-! ### operators -/
def OpX (K : PySem.W.Frag) (r : R2) (f : α → β → Res γ) : Prop := ∀ (F H : Hp) (x : α) (y : β) (v u : V) (Q : VK), Ex F H → Rep K F (toD x) v → Rep K F (toD y) u →
  KE K (fun _ _ _ _ => False) F H [] Q (f x y) → r v u H Q
theorem KE.exc_false {Q : VK} {c : Str} (h : KE K (fun _ _ _ _ => False) F H [] Q (.exc c : Res α)) (e : Ex F H) : False := h F H (Adv.refl e)
/-- operators let nothing out -/
def Mild (f : α → β → Res γ) : Prop := ∀ x y c, f x y ≠ .exc c
theorem KE.mild {Q : VK} {m : Res γ} (hm : ∀ c, m ≠ .exc c) (h : KE K W F H σ Q m) : KE K (fun _ _ _ _ => False) F H [] Q m := by
  cases m with
  | ok x => exact h
  | exc c => exact absurd rfl (hm c)
  | stuck => exact h.elim
theorem ev_op {m1 : Res α} {m2 : Res β} {f : α → β → Res γ} (ho : OpX K r f) (hm : Mild f) (ha : EvX K W env ta m1) (hb : EvX K W env tb m2) :
    EvX K W env (tOp r ta tb) (m1.bind fun x => m2.bind fun y => f x y) := fun F0 H0 F H σ Q S k => by
  refine ha F0 H0 F H σ _ S (KE.cut S.ex k fun x v F1 H1 e1 a1 r1 k1 => ?_)
  refine hb F0 H0 F1 H1 σ _ (S.step a1) (KE.cut a1.in_ k1 fun y u F2 H2 e2 a2 r2 k2 => ?_)
  exact ho F2 H2 x y v u Q a2.in_ (Rep.mono a2.f _ _ r1) r2 (k2.mild (hm x y))
theorem mild_ok {g : α → β → γ} : Mild (fun x y => Res.ok (g x y)) := fun _ _ _ h => nomatch h
theorem mild_need {p : α → β → Prop} {g : α → β → γ} : Mild (fun x y => Res.need (p x y) (.ok (g x y))) := fun x y c h => by
  by_cases q : p x y
  · have h : Res.need (p x y) (.ok (g x y)) = .exc c := h
    rw [Res.need_pos q] at h; cases h
  · have h : Res.need (p x y) (.ok (g x y)) = .exc c := h
    rw [Res.need_neg q] at h; cases h
theorem opx_I0 {g : Int → Int → Int} : OpX K (rI0 fun i j => .int (g i j)) (fun i j => .ok (g i j)) := fun F H x y v u Q e h1 h2 k =>
  ⟨x, y, h1, h2, k _ F H (Adv.refl e) rfl⟩
theorem opx_B0 {g : Int → Int → Bool} : OpX K (rI0 fun i j => .bl (g i j)) (fun i j => .ok (g i j)) := fun F H x y v u Q e h1 h2 k =>
  ⟨x, y, h1, h2, k _ F H (Adv.refl e) rfl⟩
theorem opx_I {C : Int → Int → Prop} {g : Int → Int → Int} : OpX K (rI C fun i j => .int (g i j)) (fun i j => .need (C i j) (.ok (g i j))) := fun F H x y v u Q e h1 h2 k => by
  by_cases c : C x y
  · have k : KE K (fun _ _ _ _ => False) F H [] Q (Res.need (C x y) (.ok (g x y))) := k
    rw [Res.need_pos c] at k
    exact ⟨x, y, h1, h2, c, k _ F H (Adv.refl e) rfl⟩
  · have k : KE K (fun _ _ _ _ => False) F H [] Q (Res.need (C x y) (.ok (g x y))) := k
    rw [Res.need_neg c] at k
    exact k.elim
/-- the same where the condition is known -/
theorem ev_opI {m1 m2 : Res Int} {C : Int → Int → Prop} {g : Int → Int → Int} (hc : ∀ x y, m1 = .ok x → m2 = .ok y → C x y) (ha : EvX K W env ta m1) (hb : EvX K W env tb m2) :
    EvX K W env (tOp (rI C fun i j => .int (g i j)) ta tb) (m1.bind fun x => m2.bind fun y => .ok (g x y)) := fun F0 H0 F H σ Q S k => by
  refine ha F0 H0 F H σ _ S (KE.cut S.ex k fun x v F1 H1 e1 a1 r1 k1 => ?_)
  refine hb F0 H0 F1 H1 σ _ (S.step a1) (KE.cut a1.in_ k1 fun y u F2 H2 e2 a2 r2 k2 => ?_)
  exact ⟨x, y, r1, r2, hc x y e1 e2, k2 _ F2 H2 (Adv.refl a2.in_) rfl⟩
theorem ev_un {m1 : Res Int} {g : Int → Int} (ha : EvX K W env ta m1) : EvX K W env (tUn (rU fun i => .int (g i)) ta) (m1.bind fun x => .ok (g x)) := fun F0 H0 F H σ Q S k => by
  refine ha F0 H0 F H σ _ S (KE.cut S.ex k fun x v F1 H1 e1 a1 r1 k1 => ?_)
  exact ⟨x, r1, k1 _ F1 H1 (Adv.refl a1.in_) rfl⟩
/-- == of two ints, two bools, two texts -/
theorem opx_eqI : OpX K rEq (fun (i j : Int) => .ok (decide (i = j))) := fun F H x y v u Q e h1 h2 k => by
  cases (show v = V.int x from h1); cases (show u = V.int y from h2)
  refine ⟨rfl, ?_⟩
  rw [show decide (V.int x = V.int y) = decide (x = y) by rw [dec_int]; rfl]
  exact k _ F H (Adv.refl e) rfl
theorem opx_neI : OpX K rNe (fun (i j : Int) => .ok (!decide (i = j))) := fun F H x y v u Q e h1 h2 k => by
  cases (show v = V.int x from h1); cases (show u = V.int y from h2)
  refine ⟨rfl, ?_⟩
  rw [show decide (V.int x = V.int y) = decide (x = y) by rw [dec_int]; rfl]
  exact k _ F H (Adv.refl e) rfl
theorem opx_eqB : OpX K rEq (fun (i j : Bool) => .ok (i == j)) := fun F H x y v u Q e h1 h2 k => by
  cases (show v = V.bl x from h1); cases (show u = V.bl y from h2)
  refine ⟨rfl, ?_⟩
  rw [dec_bl]
  exact k _ F H (Adv.refl e) rfl
theorem opx_neB : OpX K rNe (fun (i j : Bool) => .ok (!(i == j))) := fun F H x y v u Q e h1 h2 k => by
  cases (show v = V.bl x from h1); cases (show u = V.bl y from h2)
  refine ⟨rfl, ?_⟩
  rw [dec_bl]
  exact k _ F H (Adv.refl e) rfl
theorem opx_eqS : OpX K rEq (fun (i j : Str) => .ok (i == j)) := fun F H x y v u Q e h1 h2 k => by
  cases (show v = V.str x from h1); cases (show u = V.str y from h2)
  refine ⟨rfl, ?_⟩
  rw [dec_str]
  exact k _ F H (Adv.refl e) rfl
theorem opx_neS : OpX K rNe (fun (i j : Str) => .ok (!(i == j))) := fun F H x y v u Q e h1 h2 k => by
  cases (show v = V.str x from h1); cases (show u = V.str y from h2)
  refine ⟨rfl, ?_⟩
  rw [dec_str]
  exact k _ F H (Adv.refl e) rfl
def D.isNon : D → Bool
  | .non => true
  | _ => false
theorem rep_isNon : ∀ {x : D} {v : V}, Rep K F x v → decide (v = V.non) = x.isNon
  | .non, v, h => by rw [show v = V.non from h]; rfl
  | .bl b, v, h => by rw [show v = V.bl b from h]; rfl
  | .int b, v, h => by rw [show v = V.int b from h]; rfl
  | .str b, v, h => by rw [show v = V.str b from h]; rfl
  | .ty b, v, h => by rw [show v = V.ty b from h]; rfl
  | .tup ds, v, h => by obtain ⟨a, vs, rfl, _⟩ := h; rfl
  | .lst ds, v, h => by obtain ⟨a, vs, rfl, _⟩ := h; rfl
  | .obj c ks ds, v, h => by obtain ⟨a, dx, vs, rfl, _⟩ := h; rfl
  | .ro ds, v, h => by obtain ⟨a, vs, rfl, _⟩ := h; rfl
theorem opx_isN : OpX K (fun x y H Q => y = .non ∧ Q (.bl (decide (x = .non))) H) (fun (x : α) (_ : Unit) => .ok (toD x).isNon) := fun F H x y v u Q e h1 h2 k =>
  ⟨h2, by rw [rep_isNon h1]; exact k _ F H (Adv.refl e) rfl⟩
theorem opx_notN : OpX K (fun x y H Q => y = .non ∧ Q (.bl (!decide (x = .non))) H) (fun (x : α) (_ : Unit) => .ok (!(toD x).isNon)) := fun F H x y v u Q e h1 h2 k =>
  ⟨h2, by rw [rep_isNon h1]; exact k _ F H (Adv.refl e) rfl⟩

/-! ### == of data -/
mutual
def D.py : D → PyData
  | .non => .none
  | .bl b => .bool b
  | .int i => .int i
  | .str s => .str s
  | .ty _ => .none
  | .tup xs => .tuple (pyL xs)
  | .lst xs => .list (pyL xs)
  | .obj _ _ _ => .none
  | .ro _ => .none
def pyL : List D → List PyData
  | [] => []
  | x :: xs => D.py x :: pyL xs
end
mutual
/-- no objects, no classes within -/
def D.flat : D → Bool
  | .ty _ => false
  | .obj _ _ _ => false
  | .ro _ => false
  | .tup xs => flatL xs
  | .lst xs => flatL xs
  | _ => true
def flatL : List D → Bool
  | [] => true
  | x :: xs => D.flat x && flatL xs
end
mutual
theorem dp_of : ∀ {x : D} {v : V}, Rep K F x v → x.flat = true → Dp K F v x.py
  | .non, v, h, _ => by rw [show v = V.non from h]; exact .non
  | .bl b, v, h, _ => by rw [show v = V.bl b from h]; exact .bl b
  | .int b, v, h, _ => by rw [show v = V.int b from h]; exact .int b
  | .str b, v, h, _ => by rw [show v = V.str b from h]; exact .str b
  | .ty b, v, h, q => by cases q
  | .tup ds, v, h, q => by obtain ⟨a, vs, rfl, h2, h3⟩ := h; exact .tup h2 (dps_of h3 q)
  | .lst ds, v, h, q => by obtain ⟨a, vs, rfl, h2, h3⟩ := h; exact .lst (Evl.sq_of h2) (dps_of h3 q)
  | .obj c ks ds, v, h, q => by cases q
  | .ro ds, v, h, q => by cases q
theorem dps_of : ∀ {xs : List D} {vs : List V}, Reps K F xs vs → flatL xs = true → DpAll K F vs (pyL xs)
  | [], vs, h, _ => by rw [show vs = [] from h]; exact .nil
  | x :: xs, vs, h, q => by
    obtain ⟨v, r, rfl, h2, h3⟩ := h
    have q2 := Bool.and_eq_true_iff.mp (show (D.flat x && flatL xs) = true from q)
    exact .cons (dp_of h2 q2.1) (dps_of h3 q2.2)
end
mutual
theorem Dp.mono {e : Ex F F'} : ∀ {v : V} {x : PyData}, Dp K F v x → Dp K F' v x
  | _, _, .non => .non
  | _, _, .bl b => .bl b
  | _, _, .int b => .int b
  | _, _, .str b => .str b
  | _, _, .lst h1 h2 => .lst (Evl.ex_l e h1) (Dps.mono (e := e) h2)
  | _, _, .tup h1 h2 => .tup (Evl.ex_t e h1) (Dps.mono (e := e) h2)
theorem Dps.mono {e : Ex F F'} : ∀ {v : List V} {x : List PyData}, DpAll K F v x → DpAll K F' v x
  | _, _, .nil => .nil
  | _, _, .cons h1 h2 => .cons (Dp.mono (e := e) h1) (Dps.mono (e := e) h2)
end
/-- data that == may be asked of -/
def D.okq (x : D) : Bool := x.flat && SeqAt.shaped x.py
def pyEq (x y : D) : Bool := PyData.eqv x.py y.py
theorem opx_eqD : OpX K (rEqD K) (fun (x : α) (y : β) => .need ((toD x).okq = true ∧ (toD y).okq = true) (.ok (pyEq (toD x) (toD y)))) := fun F H x y v u Q e h1 h2 k => by
  dsimp only at k
  by_cases c : (toD x).okq = true ∧ (toD y).okq = true
  · rw [Res.need_pos c] at k
    obtain ⟨c1, c2⟩ := c
    obtain ⟨a1, a2⟩ := Bool.and_eq_true_iff.mp c1
    obtain ⟨b1, b2⟩ := Bool.and_eq_true_iff.mp c2
    exact ⟨_, _, Dp.mono (e := e) (dp_of h1 a1), Dp.mono (e := e) (dp_of h2 b1), a2, b2, k _ F H (Adv.refl e) rfl⟩
  · rw [Res.need_neg c] at k
    exact k.elim
theorem opx_neD : OpX K (rNeD K) (fun (x : α) (y : β) => .need ((toD x).okq = true ∧ (toD y).okq = true) (.ok (!pyEq (toD x) (toD y)))) := fun F H x y v u Q e h1 h2 k => by
  dsimp only at k
  by_cases c : (toD x).okq = true ∧ (toD y).okq = true
  · rw [Res.need_pos c] at k
    obtain ⟨c1, c2⟩ := c
    obtain ⟨a1, a2⟩ := Bool.and_eq_true_iff.mp c1
    obtain ⟨b1, b2⟩ := Bool.and_eq_true_iff.mp c2
    exact ⟨_, _, Dp.mono (e := e) (dp_of h1 a1), Dp.mono (e := e) (dp_of h2 b1), a2, b2, k _ F H (Adv.refl e) rfl⟩
  · rw [Res.need_neg c] at k
    exact k.elim

/-! ### an item -/
def idx {α : Type} (xs : List α) (i : Int) : Res α := match atI xs i with
  | some x => .ok x
  | none => .stuck
theorem idx_mild {α : Type} (xs : List α) (i : Int) (c : Str) : idx xs i ≠ .exc c := by
  unfold idx; split <;> intro h <;> cases h
theorem atI_map {α β : Type} (f : α → β) (xs : List α) (i : Int) : atI (xs.map f) i = (atI xs i).map f := by
  unfold atI
  rw [List.length_map]
  cases ixN xs.length i with
  | none => rfl
  | some j => simp
theorem Reps.at {xs : List D} {vs : List V} {i : Int} {x : D} (h : Reps K F xs vs) (e : atI xs i = some x) : ∃ v, atI vs i = some v ∧ Rep K F x v := by
  unfold atI at e ⊢
  rw [← h.length]
  cases q : ixN xs.length i with
  | none => rw [q] at e; cases e
  | some j => rw [q] at e; exact Reps.get h e
theorem opx_ixL : OpX K (rIxL K) (fun (xs : List α) (i : Int) => idx xs i) := fun F H xs i v u Q e h1 h2 k => by
  obtain ⟨a, vs, rfl, hl, hr⟩ := h1
  cases (show u = V.int i from h2)
  dsimp only [idx] at k
  cases q : atI xs i with
  | none => rw [q] at k; exact k.elim
  | some x =>
    rw [q] at k
    obtain ⟨w, hw, rw_⟩ := Reps.at (i := i) hr (x := toD x) (by rw [atI_map, q]; rfl)
    exact ⟨a, vs, i, w, rfl, rfl, sq_ex e hl, hw, k _ F H (Adv.refl e) rw_⟩
theorem opx_ixT : OpX K (rIxT K) (fun (xs : Tu α) (i : Int) => idx xs.xs i) := fun F H xs i v u Q e h1 h2 k => by
  obtain ⟨a, vs, rfl, hl, hr⟩ := h1
  cases (show u = V.int i from h2)
  dsimp only [idx] at k
  cases q : atI xs.xs i with
  | none => rw [q] at k; exact k.elim
  | some x =>
    rw [q] at k
    obtain ⟨w, hw, rw_⟩ := Reps.at (i := i) hr (x := toD x) (by rw [atI_map, q]; rfl)
    exact ⟨a, vs, i, w, rfl, rfl, Evl.ex_t e hl, hw, k _ F H (Adv.refl e) rw_⟩
/-- t[i], i written, t a tuple whose parts have types of their own -/
theorem ev_ixTC {m : Res α} {i : Int} {f : α → β} (ha : EvX K W env ta m) (hf : ∀ x, ∃ ds, toD x = .tup ds ∧ atI ds i = some (toD (f x))) :
    EvX K W env (tOp (rIxT K) ta (tC (.int i))) (m.bind fun x => .ok (f x)) := fun F0 H0 F H σ Q S k => by
  refine ha F0 H0 F H σ _ S (KE.cut S.ex k fun x v F1 H1 e1 a1 r1 k1 => ?_)
  obtain ⟨ds, e, q⟩ := hf x
  rw [e] at r1
  obtain ⟨a, vs, rfl, hl, hr⟩ := r1
  obtain ⟨w, hw, rw_⟩ := Reps.at (i := i) hr q
  exact ⟨a, vs, i, w, rfl, rfl, Evl.ex_t a1.in_ hl, hw, k1 _ F1 H1 (Adv.refl a1.in_) rw_⟩
/-- xs[i], xs the owned list of slot j -/
theorem ev_ixO {j : Nat} {xs : List α} {m : Res Int} (h : env[j]? = some (some (.ow (xs.map toD)))) (hb : EvX K W env tb m) : EvX K W env (tOp (rIxL K) (tVar j) tb) (m.bind fun i => idx xs i) := fun F0 H0 F H σ Q S k => by
  obtain ⟨v, e, p, vs, rfl, h0, hf, hp, hr⟩ := S.slot j _ h
  refine ⟨_, e, ?_⟩
  refine hb F0 H0 F H σ _ S (KE.cut S.ex k fun i u F1 H1 e1 a1 r1 k1 => ?_)
  cases (show u = V.int i from r1)
  unfold idx at k1
  cases q : atI xs i with
  | none => rw [q] at k1; exact k1.elim
  | some x =>
    rw [q] at k1
    obtain ⟨w, hw, rw_⟩ := Reps.at (i := i) hr (x := toD x) (by rw [atI_map, q]; rfl)
    exact ⟨p, vs, i, w, rfl, rfl, .inl (.inl (a1.h _ _ hp)), hw, k1 _ F1 H1 (Adv.refl a1.in_) (Rep.mono a1.f _ _ rw_)⟩

/-! ### tests, and, or, not -/
theorem et_test {m : Res Bool} (ha : EvX K W env te m) : EvT K W env (tTest te) m := fun F0 H0 F H σ Q S k => by
  refine ha F0 H0 F H σ _ S ?_
  cases m with
  | ok b => exact fun v F' H' a q => ⟨b, q, k F' H' a⟩
  | exc c => exact k
  | stuck => exact k.elim
theorem et_B {m : Res Bool} (ha : EvX K W env te m) : EvT K W env (tB te) m := et_test ha
theorem et_not {m : Res Bool} (ha : EvT K W env tt m) : EvT K W env (tNot tt) (m.bind fun b => .ok (!b)) := fun F0 H0 F H σ Q S k => by
  refine ha F0 H0 F H σ _ S ?_
  cases m with
  | ok b => exact k
  | exc c => exact k
  | stuck => exact k.elim
theorem et_and {m1 m2 : Res Bool} (ha : EvT K W env tt m1) (hb : EvT K W env tu m2) : EvT K W env (tAnd tt tu) (m1.bind fun b => cond b m2 (.ok false)) := fun F0 H0 F H σ Q S k => by
  refine ha F0 H0 F H σ _ S ?_
  cases m1 with
  | ok b =>
    intro F' H' a
    cases b with
    | true =>
      have k : KT K W F H σ Q m2 := k
      show tu σ H' Q
      exact hb F0 H0 F' H' σ Q (S.step a) (k.adv a)
    | false => exact k F' H' a
  | exc c => exact k
  | stuck => exact k.elim
theorem et_or {m1 m2 : Res Bool} (ha : EvT K W env tt m1) (hb : EvT K W env tu m2) : EvT K W env (tOr tt tu) (m1.bind fun b => cond b (.ok true) m2) := fun F0 H0 F H σ Q S k => by
  refine ha F0 H0 F H σ _ S ?_
  cases m1 with
  | ok b =>
    intro F' H' a
    cases b with
    | false =>
      have k : KT K W F H σ Q m2 := k
      show tu σ H' Q
      exact hb F0 H0 F' H' σ Q (S.step a) (k.adv a)
    | true => exact k F' H' a
  | exc c => exact k
  | stuck => exact k.elim
theorem ev_andV {m1 m2 : Res Bool} (ha : EvX K W env ta m1) (hb : EvX K W env tb m2) : EvX K W env (tAndV ta tb) (m1.bind fun b => cond b m2 (.ok false)) := fun F0 H0 F H σ Q S k => by
  refine ha F0 H0 F H σ _ S ?_
  cases m1 with
  | ok b =>
    intro v F' H' a r
    refine ⟨b, r, ?_⟩
    cases b with
    | true =>
      have k : KE K W F H σ Q m2 := k
      exact hb F0 H0 F' H' σ Q (S.step a) (k.adv a)
    | false => exact k _ F' H' a rfl
  | exc c => exact k
  | stuck => exact k.elim
theorem ev_orV {m1 m2 : Res Bool} (ha : EvX K W env ta m1) (hb : EvX K W env tb m2) : EvX K W env (tOrV ta tb) (m1.bind fun b => cond b (.ok true) m2) := fun F0 H0 F H σ Q S k => by
  refine ha F0 H0 F H σ _ S ?_
  cases m1 with
  | ok b =>
    intro v F' H' a r
    refine ⟨b, r, ?_⟩
    cases b with
    | false =>
      have k : KE K W F H σ Q m2 := k
      exact hb F0 H0 F' H' σ Q (S.step a) (k.adv a)
    | true => exact k _ F' H' a rfl
  | exc c => exact k
  | stuck => exact k.elim
theorem ev_notV {m : Res Bool} (ha : EvX K W env ta m) : EvX K W env (tNotV ta) (m.bind fun b => .ok (!b)) := fun F0 H0 F H σ Q S k => by
  refine ha F0 H0 F H σ _ S ?_
  cases m with
  | ok b => exact fun v F' H' a r => ⟨b, r, k _ F' H' a rfl⟩
  | exc c => exact k
  | stuck => exact k.elim
theorem ev_if {m : Res Bool} {m1 m2 : Res α} (hc : EvT K W env tt m) (ha : EvX K W env ta m1) (hb : EvX K W env tb m2) : EvX K W env (tIf tt ta tb) (m.bind fun b => cond b m1 m2) := fun F0 H0 F H σ Q S k => by
  refine hc F0 H0 F H σ _ S ?_
  cases m with
  | ok b =>
    intro F' H' a
    cases b with
    | true =>
      have k : KE K W F H σ Q m1 := k
      show ta σ H' Q
      exact ha F0 H0 F' H' σ Q (S.step a) (k.adv a)
    | false =>
      have k : KE K W F H σ Q m2 := k
      show tb σ H' Q
      exact hb F0 H0 F' H' σ Q (S.step a) (k.adv a)
  | exc c => exact k
  | stuck => exact k.elim
/-- a < b < c -/
theorem ev_chain {m1 : Res α} {m2 : Res β} {m3 : Res γ} {r' : R2} {f : α → β → Res Bool} {g : β → γ → Res Bool} (ho : OpX K r f) (hf : Mild f) (ho' : OpX K r' g) (hg : Mild g) (ha : EvX K W env ta m1) (hb : EvX K W env tb m2) (hc : EvX K W env tc m3) :
    EvX K W env (tChain r r' ta tb tc) (m1.bind fun x => m2.bind fun y => (f x y).bind fun b => cond b (m3.bind fun z => g y z) (.ok false)) := fun F0 H0 F H σ Q S k => by
  refine ha F0 H0 F H σ _ S (KE.cut S.ex k fun x v F1 H1 e1 a1 r1 k1 => ?_)
  refine hb F0 H0 F1 H1 σ _ (S.step a1) (KE.cut a1.in_ k1 fun y u F2 H2 e2 a2 r2 k2 => ?_)
  refine ho F2 H2 x y v u _ a2.in_ (Rep.mono a2.f _ _ r1) r2 ?_
  cases q : f x y with
  | ok b =>
    rw [q] at k2
    intro w F3 H3 a3 rb
    refine ⟨b, rb, ?_⟩
    cases b with
    | true =>
      have k3 : KE K W F2 H2 σ Q (m3.bind fun z => g y z) := k2
      show tc σ H3 _
      refine hc F0 H0 F3 H3 σ _ (((S.step a1).step a2).step a3) (KE.cut a3.in_ (k3.adv a3) fun z w F4 H4 e4 a4 r4 k4 => ?_)
      exact ho' F4 H4 y z u w Q a4.in_ (Rep.mono (a3.trans a4).f _ _ r2) r4 (k4.mild (hg y z))
    | false => exact k2 _ F3 H3 a3 rfl
  | exc c => exact absurd q (hf x y c)
  | stuck => rw [q] at k2; exact k2.elim

/-! ### arguments, displays, calls -/
theorem ea_nil : EvA K W env tNil (.ok ()) := fun F0 H0 F H σ Q S k => k [] F H (Adv.refl S.ex) rfl
theorem ea_cons {δ : Type} [ToDs δ] {t : TA} {m1 : Res α} {m2 : Res δ} (ha : EvX K W env te m1) (hb : EvA K W env t m2) : EvA K W env (tCons te t) (m1.bind fun x => m2.bind fun y => .ok (x, y)) := fun F0 H0 F H σ Q S k => by
  refine ha F0 H0 F H σ _ S ?_
  cases m1 with
  | ok x =>
    intro v F1 H1 a1 r1
    have k1 : KA K W F H σ Q (m2.bind fun y => .ok (x, y)) := k
    refine hb F0 H0 F1 H1 σ _ (S.step a1) ?_
    cases m2 with
    | ok y =>
      intro vs F2 H2 a2 r2
      exact k1 (v :: vs) F2 H2 (a1.trans a2) ⟨v, vs, rfl, Rep.mono a2.f _ _ r1, r2⟩
    | exc c => exact fun F2 H2 a2 => k1 F2 H2 (a1.trans a2)
    | stuck => exact k1.elim
  | exc c => exact k
  | stuck => exact k.elim
/-- a tuple that is made; its type by f -/
theorem ev_tup {δ : Type} [ToDs δ] {t : TA} {m : Res δ} {f : δ → α} (ha : EvA K W env t m) (hf : ∀ y : δ, toD (f y) = .tup (ToDs.ds y)) (hn : ∀ y : δ, (ToDs.ds y).length ≤ 100000) : EvX K W env (tTup t) (m.bind fun y => .ok (f y)) := fun F0 H0 F H σ Q S k => by
  refine ha F0 H0 F H σ _ S ?_
  cases m with
  | ok y =>
    intro vs F1 H1 a1 r1
    refine ⟨by rw [← r1.length]; exact Evl.sz_of (hn y), fun p hp => ?_⟩
    have a2 : Adv F1 H1 (upd F1 p (.tup vs)) (upd H1 p (.tup vs)) := Adv.new a1.in_ hp
    refine k _ _ _ (a1.trans a2) ?_
    rw [hf]
    exact ⟨p, vs, rfl, .inl (.inl upd_same), Reps.mono a2.f _ _ r1⟩
  | exc c => exact k
  | stuck => exact k.elim
/-- a list that is made -/
theorem en_lst {δ : Type} [ToDs δ] {t : TA} {m : Res δ} {f : δ → List α} (ha : EvA K W env t m) (hf : ∀ y : δ, (f y).map toD = ToDs.ds y) (hn : ∀ y : δ, (ToDs.ds y).length ≤ 100000) : EvN K W env (tLst t) (m.bind fun y => .ok (f y)) := fun F0 H0 F H σ Q S k => by
  refine ha F0 H0 F H σ _ S ?_
  cases m with
  | ok y =>
    intro vs F1 H1 a1 r1
    refine ⟨by rw [← r1.length]; exact Evl.sz_of (hn y), fun p hp => ?_⟩
    refine k p vs _ _ (a1.trans (Adv.newO a1.in_ hp)) (Evl.fresh_back a1.h hp) (none_of_ex a1.in_ hp) upd_same ?_
    rw [hf]
    exact r1
  | exc c => exact k
  | stuck => exact k.elim
/-- a new list as a value that is not changed later -/
theorem ev_ofN {m : Res (List α)} (h : EvN K W env te m) : EvX K W env te m := fun F0 H0 F H σ Q S k => by
  refine h F0 H0 F H σ Q S ?_
  cases m with
  | ok xs =>
    intro p vs F1 H1 a1 hp hf hh r
    have e : Ex F1 (upd F1 p (.lst vs)) := Ex.new hf
    refine k _ (upd F1 p (.lst vs)) H1 ⟨a1.f.trans e, a1.h, fun a u q => ?_, fun q h1 h2 => ?_⟩ ⟨p, vs, rfl, upd_same, Reps.mono e _ _ r⟩
    · by_cases z : a = p
      · subst z; rw [upd_same] at q; cases q; exact hh
      · rw [upd_ne z] at q; exact a1.in_ a u q
    · have z : q ≠ p := fun z => h2 (by rw [z]; exact hp)
      rw [upd_ne z]; exact a1.out q h1 h2
  | exc c => exact k
  | stuck => exact k.elim
/-- a def's promise, by the function that tells what it gives -/
def spM (K : PySem.W.Frag) {δ : Type} [ToDs δ] (f : δ → Res α) : Sp := fun vs H Q E => ∃ F x, Ex F H ∧ Reps K F (ToDs.ds x) vs ∧ KE K (fun cls d _ H => E cls d H) F H [] Q (f x)
theorem ev_call {δ : Type} [ToDs δ] {t : TA} {m : Res δ} {f : δ → Res α} (ha : EvA K W env t m) : EvX K W env (tCallS (spM K f) (WE W) t) (m.bind f) := fun F0 H0 F H σ Q S k => by
  refine ha F0 H0 F H σ _ S ?_
  cases m with
  | ok y =>
    intro vs F1 H1 a1 r1
    refine ⟨F1, y, a1.in_, r1, ?_⟩
    have k : KE K W F H σ Q (f y) := k
    have k := k.adv a1
    revert k
    generalize f y = z
    intro k
    cases z with
    | ok z => exact k
    | exc c => exact k
    | stuck => exact k.elim
  | exc c => exact k
  | stuck => exact k.elim
namespace Res
def noexc {α : Type} : Res α → Res α
  | .exc _ => .stuck
  | m => m
end Res
/-- a call of a def that lets nothing out there -/
theorem ev_call0 {δ : Type} [ToDs δ] {t : TA} {m : Res δ} {f : δ → Res α} (ha : EvA K W env t m) : EvX K W env (tCall (spM K f) [] E0 t) (m.bind fun y => (f y).noexc) := fun F0 H0 F H σ Q S k => by
  refine ha F0 H0 F H σ _ S ?_
  cases m with
  | ok y =>
    intro vs F1 H1 a1 r1
    refine ⟨F1, y, a1.in_, by rw [List.append_nil]; exact r1, ?_⟩
    have k : KE K W F H σ Q (f y).noexc := k
    have k := k.adv a1
    revert k
    generalize f y = z
    intro k
    cases z with
    | ok z => exact k
    | exc c => exact k.elim
    | stuck => exact k.elim
  | exc c => exact k
  | stuck => exact k.elim
/-- built-in defs by their values -/
def CrX (K : PySem.W.Frag) (r : List V → Hp → VK → Prop) {δ : Type} [ToDs δ] (f : δ → Res α) : Prop := ∀ (F H : Hp) (x : δ) (vs : List V) (Q : VK), Ex F H → Reps K F (ToDs.ds x) vs → KE K (fun _ _ _ _ => False) F H [] Q (f x) → r vs H Q
theorem ev_cb {δ : Type} [ToDs δ] {r : List V → Hp → VK → Prop} {t : TA} {m : Res δ} {f : δ → Res α} (ho : CrX K r f) (hm : ∀ x c, f x ≠ .exc c) (ha : EvA K W env t m) : EvX K W env (tCB r t) (m.bind f) := fun F0 H0 F H σ Q S k => by
  refine ha F0 H0 F H σ _ S ?_
  cases m with
  | ok y =>
    intro vs F1 H1 a1 r1
    have k : KE K W F H σ Q (f y) := k
    exact ho F1 H1 y vs Q a1.in_ r1 ((k.adv a1).mild (hm y))
  | exc c => exact k
  | stuck => exact k.elim
end
end Mi
set_option maxHeartbeats 1000000
namespace Mi
open PySem PySem.Spec L2
open Evl (Ex)

/-! ### statements -/
inductive EnLe : En → En → Prop
  | nil : EnLe [] []
  | same {e : Option Sk} {l m : En} : EnLe l m → EnLe (e :: l) (e :: m)
  | drop {e : Option Sk} {l m : En} : EnLe l m → EnLe (e :: l) (none :: m)
theorem EnLe.refl : ∀ l : En, EnLe l l
  | [] => .nil
  | _ :: l => .same (EnLe.refl l)
theorem EnLe.get : ∀ {l m : En}, EnLe l m → ∀ {i : Nat} {sk : Sk}, m[i]? = some (some sk) → l[i]? = some (some sk)
  | _, _, .nil, i, sk, h => h
  | _, _, .same t, 0, sk, h => h
  | _, _, .same t, i + 1, sk, h => EnLe.get t (by simpa using h)
  | _, _, .drop t, 0, sk, h => by simp at h
  | _, _, .drop t, i + 1, sk, h => EnLe.get t (by simpa using h)
theorem EnLe.len {l m : En} (h : EnLe l m) : l.length = m.length := by
  induction h with
  | nil => rfl
  | same _ ih => simp [ih]
  | drop _ ih => simp [ih]
theorem Sl.weak {K : PySem.W.Frag} {F0 H0 F H : Hp} {σ : L2.St} {env env' : En} (S : Sl K F0 H0 F H σ env) (h : EnLe env env') : Sl K F0 H0 F H σ env' :=
  ⟨S.adv, fun i sk e => S.slot i sk (h.get e), fun i j sk sk' p hij e1 e2 => S.dis i j sk sk' p hij (h.get e1) (h.get e2), S.len.trans h.len⟩
def Blk (K : PySem.W.Frag) (F0 H0 : Hp) {τ : Type} (KP : Res τ → Prop) (T : L2.St → Hp → Prop) (env : En) (m : Res τ) : Prop :=
  ∀ F H σ, Sl K F0 H0 F H σ env → KP m → T σ H
structure Lk (K : PySem.W.Frag) (W : WX) (F0 H0 : Hp) (rt : VK) (PT : En → Prop) {τ : Type} [ToD τ] (KP : Res τ → Prop) : Prop where
  ok : ∀ x, KP (.ok x) → ∀ v F H, Adv F0 H0 F H → Rep K F (toD x) v → rt v H
  exc : ∀ c F H σ env, KP (.exc c) → PT env → Sl K F0 H0 F H σ env → W (.ref (He.ga K c)) none σ H
  no : ¬ KP .stuck
section
variable {K : PySem.W.Frag} {W : WX} {F0 H0 F H F' H' F1 : Hp} {rt : VK} {PT : En → Prop} {env env' : En} {α β γ τ : Type} [ToD α] [ToD β] [ToD γ] [ToD τ] {KP : Res τ → Prop} {te ta tb tc : TE} {tt : TT} {Z : Ends} {t u : TS} {T : L2.St → Hp → Prop}
theorem Sl.base {σ : L2.St} (S : Sl K F0 H0 F1 H' σ env) {σ' : L2.St} (S' : Sl K F1 H0 F H σ' env') : Sl K F0 H0 F H σ' env' :=
  ⟨⟨S.adv.f.trans S'.adv.f, S'.adv.h, S'.adv.in_, fun p h1 h2 => S'.adv.out p (S.adv.out p h1 h2) h2⟩, S'.slot, S'.dis, S'.len⟩
theorem Lk.base (L : Lk K W F0 H0 rt PT KP) {σ : L2.St} (S : Sl K F0 H0 F1 H' σ env) : Lk K W F1 H0 rt PT KP :=
  ⟨fun x h v F H a r => L.ok x h v F H ⟨S.adv.f.trans a.f, a.h, a.in_, fun p h1 h2 => a.out p (S.adv.out p h1 h2) h2⟩ r,
   fun c F H σ' env' h p S' => L.exc c F H σ' env' h p (S.base S'), L.no⟩
theorem Blk.base {m : Res τ} (B : Blk K F0 H0 KP T env' m) {σ : L2.St} (S : Sl K F0 H0 F1 H' σ env) : Blk K F1 H0 KP T env' m := fun F H σ' S' h => B F H σ' (S.base S') h
theorem Blk.weak {m : Res τ} (B : Blk K F0 H0 KP T env' m) (h : EnLe env env') : Blk K F0 H0 KP T env m := fun F H σ S k => B F H σ (S.weak h) k

/-- what follows an expression in a block -/
theorem Lk.ke (L : Lk K W F0 H0 rt PT KP) (hT : PT env) {σ : L2.St} (S : Sl K F0 H0 F H σ env) {m : Res α} {f : α → Res τ} (h : KP (m.bind f)) {Q : VK}
    (k : ∀ x v F' H', m = .ok x → Adv F H F' H' → Rep K F' (toD x) v → KP (f x) → Q v H') : KE K W F H σ Q m := by
  cases m with
  | ok x => exact fun v F' H' a r => k x v F' H' rfl a r h
  | exc c => exact fun F' H' a => L.exc c F' H' σ env h hT (S.step a)
  | stuck => exact (L.no h).elim
theorem Lk.kt (L : Lk K W F0 H0 rt PT KP) (hT : PT env) {σ : L2.St} (S : Sl K F0 H0 F H σ env) {m : Res Bool} {f : Bool → Res τ} (h : KP (m.bind f)) {Q : Bool → Hp → Prop}
    (k : ∀ x F' H', m = .ok x → Adv F H F' H' → KP (f x) → Q x H') : KT K W F H σ Q m := by
  cases m with
  | ok x => exact fun F' H' a => k x F' H' rfl a h
  | exc c => exact fun F' H' a => L.exc c F' H' σ env h hT (S.step a)
  | stuck => exact (L.no h).elim
theorem Lk.kn (L : Lk K W F0 H0 rt PT KP) (hT : PT env) {σ : L2.St} (S : Sl K F0 H0 F H σ env) {m : Res (List α)} {f : List α → Res τ} (h : KP (m.bind f)) {Q : VK}
    (k : ∀ xs p vs F' H', m = .ok xs → Adv F H F' H' → H p = none → F' p = none → H' p = some (.lst vs) → Reps K F' (xs.map toD) vs → KP (f xs) → Q (.ref p) H') : KN K W F H σ Q m := by
  cases m with
  | ok x => exact fun p vs F' H' a h1 h2 h3 h4 => k x p vs F' H' rfl a h1 h2 h3 h4 h
  | exc c => exact fun F' H' a => L.exc c F' H' σ env h hT (S.step a)
  | stuck => exact (L.no h).elim

theorem blk_seq {m : Res τ} (h : Blk K F0 H0 KP (t { Z with nx := u Z }) env m) : Blk K F0 H0 KP (tSeq t u Z) env m := h
theorem blk_nil {m : Res τ} (h : Blk K F0 H0 KP Z.nx env m) : Blk K F0 H0 KP (tNext Z) env m := h

theorem Blk.nx {m : Res τ} {T bk ct : L2.St → Hp → Prop} {r : VK} (h : Blk K F0 H0 KP T env m) : Blk K F0 H0 KP (Ends.nx ⟨T, r, bk, ct⟩) env m := h
/-! targets -/
def GX (K : PySem.W.Frag) (g : TG) (x : D) (f : En → En) (ws : List Nat) : Prop := ∀ (F0 H0 F H : Hp) (σ : L2.St) (env : En) (v : V) (T : L2.St → Hp → Prop), Sl K F0 H0 F H σ env → Rep K F x v →
  (∀ σ', Sl K F0 H0 F H σ' (f env) → σ'.length = σ.length → (∀ j, j ∉ ws → σ'[j]? = σ[j]?) → T σ' H) → g v σ H T
def GXs (K : PySem.W.Frag) (g : TGs) (xs : List D) (f : En → En) (ws : List Nat) : Prop := ∀ (F0 H0 F H : Hp) (σ : L2.St) (env : En) (vs : List V) (T : L2.St → Hp → Prop), Sl K F0 H0 F H σ env → Reps K F xs vs →
  (∀ σ', Sl K F0 H0 F H σ' (f env) → σ'.length = σ.length → (∀ j, j ∉ ws → σ'[j]? = σ[j]?) → T σ' H) → g vs σ H T
def stE (i : Nat) (x : D) : En → En := fun env => env.set i (some (.im x))
theorem gx_name {i : Nat} {x : D} : GX K (gName i) x (stE i x) [i] := fun F0 H0 F H σ env v T S r k =>
  k _ (S.setIm r) (by rw [List.length_set]) fun j hj => List.getElem?_set_ne fun e => hj (by rw [e]; exact List.mem_singleton.mpr rfl)
theorem gxs_nil : GXs K gNil [] (fun e => e) [] := fun F0 H0 F H σ env vs T S r k => ⟨r, k σ S rfl fun _ _ => rfl⟩
theorem gxs_cons {g : TG} {gs : TGs} {x : D} {xs : List D} {f1 f2 : En → En} {w1 w2 : List Nat} (h1 : GX K g x f1 w1) (h2 : GXs K gs xs f2 w2) : GXs K (gCons g gs) (x :: xs) (fun e => f2 (f1 e)) (w1 ++ w2) := fun F0 H0 F H σ env vs T S r k => by
  obtain ⟨v, rs, rfl, r1, r2⟩ := r
  refine ⟨v, rs, rfl, h1 F0 H0 F H σ env v _ S r1 fun σ1 S1 l1 o1 => ?_⟩
  refine h2 F0 H0 F H σ1 _ rs T S1 r2 fun σ2 S2 l2 o2 => ?_
  refine k σ2 S2 (l2.trans l1) fun j hj => ?_
  rw [o2 j fun z => hj (List.mem_append_right _ z), o1 j fun z => hj (List.mem_append_left _ z)]
theorem gx_tup {gs : TGs} {n : Nat} {xs : List D} {f : En → En} {ws : List Nat} (h : GXs K gs xs f ws) (hn : xs.length = n) : GX K (gTup K n gs) (.tup xs) f ws := fun F0 H0 F H σ env v T S r k => by
  obtain ⟨a, vs, rfl, h1, h2⟩ := r
  exact ⟨a, vs, rfl, Evl.ex_t S.ex h1, by rw [← h2.length]; exact hn, h F0 H0 F H σ env vs T S h2 k⟩

theorem blk_asg {g : TG} {m : Res α} {f : α → Res τ} {fe : α → En → En} {ws : List Nat} (L : Lk K W F0 H0 rt PT KP) (hT : PT env) (he : EvX K W env te m) (hg : ∀ x, GX K g (toD x) (fe x) ws)
    (k : ∀ x, Blk K F0 H0 KP Z.nx (fe x env) (f x)) : Blk K F0 H0 KP (tAsg te g Z) env (m.bind f) := fun F H σ S h =>
  he F0 H0 F H σ _ S (L.ke hT S h fun x v F1 H1 e1 a1 r1 h1 => hg x F0 H0 F1 H1 σ env v _ (S.step a1) r1 fun σ' S' _ _ => k x F1 H1 σ' S' h1)
theorem blk_set {i : Nat} {m : Res α} {f : α → Res τ} (L : Lk K W F0 H0 rt PT KP) (hT : PT env) (he : EvX K W env te m)
    (k : ∀ x, Blk K F0 H0 KP Z.nx (env.set i (some (.im (toD x)))) (f x)) : Blk K F0 H0 KP (tAsg te (gName i) Z) env (m.bind f) :=
  blk_asg L hT he (fun _ => gx_name) k
/-- x = a new list that is changed later -/
theorem blk_own {i : Nat} {m : Res (List α)} {f : List α → Res τ} (L : Lk K W F0 H0 rt PT KP) (hT : PT env) (he : EvN K W env te m)
    (k : ∀ xs, Blk K F0 H0 KP Z.nx (env.set i (some (.ow (xs.map toD)))) (f xs)) : Blk K F0 H0 KP (tAsg te (gName i) Z) env (m.bind f) := fun F H σ S h =>
  he F0 H0 F H σ _ S (L.kn hT S h fun xs p vs F1 H1 e1 a1 hp hf hh r h1 => by
    have S1 := S.step a1
    refine k xs F1 H1 _ (S1.setOw (Evl.fresh_back S.adv.h hp) hf hh (fun j sk' e ho z => ?_) r) h1
    obtain ⟨v, e2, q⟩ := S.slot j _ e
    obtain ⟨p', o', rfl, _, _, q4⟩ := q.at ho
    rw [e2] at z
    cases z
    rw [hp] at q4; cases q4)
/-- x.append(e), x an owned list -/
theorem blk_app {i : Nat} {xs : List β} {m : Res β} {f : β → Res τ} (L : Lk K W F0 H0 rt PT KP) (hT : PT env) (hx : env[i]? = some (some (.ow (xs.map toD)))) (he : EvX K W env te m)
    (k : ∀ y, Blk K F0 H0 KP Z.nx (env.set i (some (.ow ((xs ++ [y]).map toD)))) (f y)) :
    Blk K F0 H0 KP (tDrop (tBM K "list" rAppend (tVar i) (tCons te tNil)) Z) env (m.bind fun y => .need (xs.length < 16777216) (f y)) := fun F H σ S h => by
  obtain ⟨v, e, p, vs, rfl, h0, hf, hp, hr⟩ := S.slot i _ hx
  refine ⟨_, e, .inl ⟨rfl, _, .inl (.inl hp)⟩, ?_⟩
  refine he F0 H0 F H σ _ S (L.ke hT S h fun y u F1 H1 e1 a1 r1 h1 => ?_)
  by_cases c : xs.length < 16777216
  · rw [Res.need_pos c] at h1
    have hr' := Reps.mono a1.f _ _ hr
    refine ⟨p, vs, u, rfl, rfl, a1.h _ _ hp, by rw [sizeLine_eq, ← hr.length, List.length_map]; exact c, ?_⟩
    refine k y F1 _ σ ((S.step a1).chg hx e (a1.out p hf (by rw [hp]; simp)) h0 ?_) h1
    rw [List.map_append]
    exact Reps.append hr' (Reps.one r1)
  · rw [Res.need_neg c] at h1
    exact (L.no h1).elim
/-- x[i] = e, x an owned list -/
theorem blk_setI {i : Nat} {xs : List β} {m : Res β} {mi : Res Int} {f : List β → Res τ} (L : Lk K W F0 H0 rt PT KP) (hT : PT env) (hx : env[i]? = some (some (.ow (xs.map toD)))) (he : EvX K W env te m) (hi : EvX K W env tb mi)
    (k : ∀ ys, Blk K F0 H0 KP Z.nx (env.set i (some (.ow (ys.map toD)))) (f ys)) :
    Blk K F0 H0 KP (tAsg te (gSub (tVar i) tb rSetL) Z) env (m.bind fun y => mi.bind fun j => match ixN xs.length j with | some a => f (xs.set a y) | none => .stuck) := fun F H σ S h => by
  obtain ⟨v, e, p, vs, rfl, h0, hf, hp, hr⟩ := S.slot i _ hx
  refine he F0 H0 F H σ _ S (L.ke hT S h fun y u F1 H1 e1 a1 r1 h1 => ?_)
  refine ⟨_, e, ?_⟩
  refine hi F0 H0 F1 H1 σ _ (S.step a1) (L.ke hT (S.step a1) h1 fun j w F2 H2 e2 a2 r2 h2 => ?_)
  cases (show w = V.int j from r2)
  have hr' := Reps.mono (a1.trans a2).f _ _ hr
  have ha := (a1.trans a2)
  have hl : vs.length = xs.length := by rw [← hr.length, List.length_map]
  cases q : ixN xs.length j with
  | none => rw [q] at h2; exact (L.no h2).elim
  | some a =>
    rw [q] at h2
    refine ⟨p, vs, j, a, rfl, rfl, ha.h _ _ hp, by rw [hl]; exact q, ?_⟩
    refine k (xs.set a y) F2 _ σ ((S.step ha).chg hx e (ha.out p hf (by rw [hp]; simp)) h0 ?_) h2
    rw [List.map_set]
    exact Reps.set a hr' (Rep.mono a2.f _ _ r1)
theorem blk_freeze {xs : List D} (i : Nat) {m : Res τ} (hx : env[i]? = some (some (.ow xs))) (k : Blk K F0 H0 KP T (env.set i (some (.im (.lst xs)))) m) : Blk K F0 H0 KP T env m := fun F H σ S h => by
  obtain ⟨F', _, S'⟩ := S.freeze hx
  exact k F' H σ S' h
theorem blk_if {m : Res Bool} {f : Bool → Res τ} (L : Lk K W F0 H0 rt PT KP) (hT : PT env) (hc : EvT K W env tt m) (h1 : Blk K F0 H0 KP (t Z) env (f true)) (h2 : Blk K F0 H0 KP (u Z) env (f false)) :
    Blk K F0 H0 KP (tIfS tt t u Z) env (m.bind f) := fun F H σ S h =>
  hc F0 H0 F H σ _ S (L.kt hT S h fun b F1 H1 e1 a1 k1 => by
    cases b with
    | true => exact h1 F1 H1 σ (S.step a1) k1
    | false => exact h2 F1 H1 σ (S.step a1) k1)
theorem blk_ret {m : Res τ} (L : Lk K W F0 H0 rt PT KP) (hT : PT env) (he : EvX K W env te m) (hZ : Z.rt = rt := by rfl) : Blk K F0 H0 KP (tRet te Z) env m := fun F H σ S h => by
  subst hZ
  rw [← Res.bind_pure m] at h
  exact he F0 H0 F H σ _ S (L.ke hT S h fun x v F1 H1 e1 a1 r1 h1 => L.ok x h1 v F1 H1 (S.adv.trans a1) r1)
/-- a value of another type is handed back -/
theorem blk_retAs {m : Res α} {f : α → τ} (L : Lk K W F0 H0 rt PT KP) (hT : PT env) (he : EvX K W env te m) (hf : ∀ x, toD (f x) = toD x) (hZ : Z.rt = rt := by rfl) : Blk K F0 H0 KP (tRet te Z) env (m.bind fun x => .ok (f x)) := fun F H σ S h => by
  subst hZ
  exact he F0 H0 F H σ _ S (L.ke hT S h fun x v F1 H1 e1 a1 r1 h1 => L.ok (f x) h1 v F1 H1 (S.adv.trans a1) (by rw [hf]; exact r1))
theorem blk_retN {x : τ} (L : Lk K W F0 H0 rt PT KP) (hx : toD x = .non) (hZ : Z.rt = rt := by rfl) : Blk K F0 H0 KP (tRetN Z) env (.ok x) := fun F H σ S h => by
  subst hZ
  exact L.ok x h .non F H S.adv (by rw [hx]; rfl)
theorem blk_expr {m : Res α} {f : α → Res τ} (L : Lk K W F0 H0 rt PT KP) (hT : PT env) (he : EvX K W env te m) (k : ∀ x, Blk K F0 H0 KP Z.nx env (f x)) : Blk K F0 H0 KP (tDrop te Z) env (m.bind f) := fun F H σ S h =>
  he F0 H0 F H σ _ S (L.ke hT S h fun x v F1 H1 e1 a1 r1 h1 => k x F1 H1 σ (S.step a1) h1)
/-- raise X('..') -/
theorem blk_raise {c : Str} (L : Lk K W F0 H0 rt PT KP) (hT : PT env) : Blk K F0 H0 KP (fun σ H => W (.ref (He.ga K c)) none σ H) env (.exc c) := fun F H σ S h => L.exc c F H σ env h hT S
theorem blk_raise1 {c : Str} {m : Res α} (L : Lk K W F0 H0 rt PT KP) (hT : PT env) (he : EvX K W env te m) : Blk K F0 H0 KP (fun σ H => te σ H fun _ H1 => W (.ref (He.ga K c)) none σ H1) env (m.bind fun _ => .exc c) := fun F H σ S h =>
  he F0 H0 F H σ _ S (L.ke hT S h fun x v F1 H1 e1 a1 r1 h1 => L.exc c F1 H1 σ env h1 hT (S.step a1))
/-- a, b = e1, e2 -/
theorem blk_par {i j : Nat} {m1 : Res α} {m2 : Res β} {f : α → β → Res τ} (L : Lk K W F0 H0 rt PT KP) (hT : PT env) (h1 : EvX K W env ta m1) (h2 : EvX K W env tb m2)
    (k : ∀ x y, Blk K F0 H0 KP Z.nx ((env.set i (some (.im (toD x)))).set j (some (.im (toD y)))) (f x y)) : Blk K F0 H0 KP (tPar i j (tCons ta (tCons tb tNil)) Z) env (m1.bind fun x => m2.bind fun y => f x y) := fun F H σ S h => by
  refine h1 F0 H0 F H σ _ S (L.ke hT S h fun x v F1 H1 e1 a1 r1 k1 => ?_)
  refine h2 F0 H0 F1 H1 σ _ (S.step a1) (L.ke hT (S.step a1) k1 fun y w F2 H2 e2 a2 r2 k2 => ?_)
  refine ⟨v, w, rfl, ?_⟩
  exact k x y F2 H2 _ ((((S.step a1).step a2).setIm (Rep.mono a2.f _ _ r1)).setIm r2) k2
/-- x op= e -/
theorem blk_aug {i : Nat} {x : Int} {m : Res Int} {f : Int → Res τ} {g : Int → Int → Int} (L : Lk K W F0 H0 rt PT KP) (hT : PT env) (hx : env[i]? = some (some (.im (.int x)))) (he : EvX K W env te m)
    (k : ∀ y, Blk K F0 H0 KP Z.nx (env.set i (some (.im (.int (g x y))))) (f y)) : Blk K F0 H0 KP (tAug i te (ipI g) Z) env (m.bind f) := fun F H σ S h => by
  obtain ⟨v, e, q⟩ := S.slot i _ hx
  cases (show v = V.int x from q)
  refine ⟨_, e, he F0 H0 F H σ _ S (L.ke hT S h fun y w F1 H1 e1 a1 r1 k1 => ?_)⟩
  exact ⟨x, y, rfl, r1, k y F1 H1 _ ((S.step a1).setIm rfl) k1⟩
theorem blk_augR {i : Nat} {x : α} {m : Res β} {f : γ → Res τ} {r : R2} {g : α → β → Res γ} (L : Lk K W F0 H0 rt PT KP) (hT : PT env) (hx : env[i]? = some (some (.im (toD x)))) (ho : OpX K r g) (hm : Mild g) (he : EvX K W env te m)
    (k : ∀ z, Blk K F0 H0 KP Z.nx (env.set i (some (.im (toD z)))) (f z)) : Blk K F0 H0 KP (tAug i te r Z) env (m.bind fun y => (g x y).bind f) := fun F H σ S h => by
  obtain ⟨v, e, q⟩ := S.slot i _ hx
  refine ⟨_, e, he F0 H0 F H σ _ S (L.ke hT S h fun y w F1 H1 e1 a1 r1 k1 => ?_)⟩
  refine ho F1 H1 x y v w _ a1.in_ (Rep.mono a1.f _ _ q) r1 ?_
  refine KE.mild (W := W) (σ := σ) (hm x y) ?_
  exact L.ke hT (S.step a1) k1 fun z u F2 H2 e2 a2 r2 k2 => k z F2 H2 _ (((S.step a1).step a2).setIm r2) k2

/-! ### loops -/
structure JS (K : PySem.W.Frag) (F : Hp) (J : It) (xs : List D) : Prop where
  go : ∀ i H, Ex F H → i < xs.length → J.go i H
  stop : ∀ i H, Ex F H → xs.length ≤ i → J.stop i H
  yld : ∀ i H v H' F1, Ex F F1 → Ex F1 H → i < xs.length → J.yld i H v H' → ∃ F2 x, Adv F1 H F2 H' ∧ xs[i]? = some x ∧ Rep K F2 x v
def KI (K : PySem.W.Frag) (W : WX) (F H : Hp) (σ : L2.St) {α : Type} [ToD α] (R : It → Hp → Prop) : Res (List α) → Prop
  | .ok xs => ∀ J F' H', Adv F H F' H' → JS K F' J (xs.map toD) → R J H'
  | .exc c => ∀ F' H', Adv F H F' H' → W (.ref (He.ga K c)) none σ H'
  | .stuck => False
def EvI (K : PySem.W.Frag) (W : WX) (env : En) (wi : TI) {α : Type} [ToD α] (m : Res (List α)) : Prop :=
  ∀ F0 H0 F H σ R, Sl K F0 H0 F H σ env → KI K W F H σ R m → wi σ H R
theorem Lk.ki (L : Lk K W F0 H0 rt PT KP) (hT : PT env) {σ : L2.St} (S : Sl K F0 H0 F H σ env) {m : Res (List α)} {f : List α → Res τ} (h : KP (m.bind f)) {R : It → Hp → Prop}
    (k : ∀ xs J F' H', m = .ok xs → Adv F H F' H' → JS K F' J (xs.map toD) → KP (f xs) → R J H') : KI K W F H σ R m := by
  cases m with
  | ok x => exact fun J F' H' a h1 => k x J F' H' rfl a h1 h
  | exc c => exact fun F' H' a => L.exc c F' H' σ env h hT (S.step a)
  | stuck => exact (L.no h).elim
theorem js_list {a : Addr} {vs : List V} {xs : List D} (hl : SqL K F a vs) (hr : Reps K F xs vs) : JS K F (Itl K a) xs := by
  have hn := hr.length
  refine ⟨fun i H e hi => ?_, fun i H e hi => ?_, fun i H v H' F1 e1 e2 hi hy => ?_⟩
  · exact ⟨vs, vs[i]'(by omega), Evl.ex_l e hl, List.getElem?_eq_getElem (by omega)⟩
  · exact ⟨vs, Evl.ex_l e hl, by omega⟩
  · obtain ⟨e, f⟩ := hy
    subst e
    have g := f vs (Evl.ex_l (e1.trans e2) hl)
    obtain ⟨w, q1, q2⟩ := hr.get (i := i) (e := xs[i]) (List.getElem?_eq_getElem hi)
    rw [g] at q1; cases q1
    exact ⟨F1, xs[i], Adv.refl e2, List.getElem?_eq_getElem hi, Rep.mono e1 _ _ q2⟩
theorem js_tup {a : Addr} {vs : List V} {xs : List D} (hl : SqT K F a vs) (hr : Reps K F xs vs) : JS K F (Itt K a) xs := by
  have hn := hr.length
  refine ⟨fun i H e hi => ?_, fun i H e hi => ?_, fun i H v H' F1 e1 e2 hi hy => ?_⟩
  · exact ⟨vs, vs[i]'(by omega), Evl.ex_t e hl, List.getElem?_eq_getElem (by omega)⟩
  · exact ⟨vs, Evl.ex_t e hl, by omega⟩
  · obtain ⟨e, f⟩ := hy
    subst e
    have g := f vs (Evl.ex_t (e1.trans e2) hl)
    obtain ⟨w, q1, q2⟩ := hr.get (i := i) (e := xs[i]) (List.getElem?_eq_getElem hi)
    rw [g] at q1; cases q1
    exact ⟨F1, xs[i], Adv.refl e2, List.getElem?_eq_getElem hi, Rep.mono e1 _ _ q2⟩
theorem ei_list {m : Res (List α)} (h : EvX K W env te m) : EvI K W env (iList K te) m := fun F0 H0 F H σ R S k => by
  refine h F0 H0 F H σ _ S ?_
  cases m with
  | ok xs =>
    intro v F1 H1 a r
    obtain ⟨p, vs, rfl, h1, h2⟩ := r
    exact ⟨p, rfl, ⟨vs, sq_ex a.in_ h1⟩, k _ F1 H1 a (js_list (Evl.sq_of h1) h2)⟩
  | exc c => exact k
  | stuck => exact k.elim
theorem ei_tup {m : Res (Tu α)} (h : EvX K W env te m) : EvI K W env (iTup K te) (m.bind fun x => .ok x.xs) := fun F0 H0 F H σ R S k => by
  refine h F0 H0 F H σ _ S ?_
  cases m with
  | ok xs =>
    intro v F1 H1 a r
    obtain ⟨p, vs, rfl, h1, h2⟩ := r
    exact ⟨p, rfl, ⟨vs, Evl.ex_t a.in_ h1⟩, k _ F1 H1 a (js_tup h1 h2)⟩
  | exc c => exact k
  | stuck => exact k.elim
def pyRange (lo hi : Int) : List Int := (List.range (hi - lo).toNat).map fun (i : Nat) => lo + (i : Int)
theorem pyRange_len (lo hi : Int) : (pyRange lo hi).length = (hi - lo).toNat := by simp [pyRange]
theorem pyRange_get {lo hi : Int} {i : Nat} (h : i < (hi - lo).toNat) : (pyRange lo hi)[i]? = some (lo + (i : Int)) := by
  simp [pyRange, h]
theorem js_range {lo hi : Int} : JS K F (Itr lo (hi - lo).toNat) ((pyRange lo hi).map toD) := by
  refine ⟨fun i H e h => ?_, fun i H e h => ?_, fun i H v H' F1 e1 e2 h hy => ?_⟩
  · rw [List.length_map, pyRange_len] at h; exact h
  · rw [List.length_map, pyRange_len] at h; exact h
  · rw [List.length_map, pyRange_len] at h
    obtain ⟨e, q⟩ := hy
    subst e q
    exact ⟨F1, .int (lo + (i : Int)), Adv.refl e2, by rw [List.getElem?_map, pyRange_get h]; rfl, rfl⟩
abbrev okRange (i : Int) : Prop := -(2 ^ 62) ≤ i ∧ i < 2 ^ 62
theorem ei_range1 {m : Res Int} (h : EvX K W env te m) : EvI K W env (iRng1 (tCons te tNil)) (m.bind fun j => .need (okRange j) (.ok (pyRange 0 j))) := fun F0 H0 F H σ R S k => by
  refine h F0 H0 F H σ _ S ?_
  cases m with
  | ok j =>
    intro v F1 H1 a r
    cases (show v = V.int j from r)
    have k : KI K W F H σ R (.need (okRange j) (.ok (pyRange 0 j))) := k
    by_cases c : okRange j
    · rw [Res.need_pos c] at k
      refine ⟨j, rfl, c.1, c.2, k _ F1 H1 a ?_⟩
      have := js_range (K := K) (F := F1) (lo := 0) (hi := j)
      rw [Int.sub_zero] at this
      exact this
    · rw [Res.need_neg c] at k; exact k.elim
  | exc c => exact k
  | stuck => exact k.elim
theorem ei_range2 {m1 m2 : Res Int} (h1 : EvX K W env ta m1) (h2 : EvX K W env tb m2) : EvI K W env (iRng2 (tCons ta (tCons tb tNil))) (m1.bind fun i => m2.bind fun j => .need (okRange i ∧ okRange j) (.ok (pyRange i j))) := fun F0 H0 F H σ R S k => by
  refine h1 F0 H0 F H σ _ S ?_
  cases m1 with
  | ok i =>
    intro v F1 H1 a r
    cases (show v = V.int i from r)
    refine h2 F0 H0 F1 H1 σ _ (S.step a) ?_
    have k : KI K W F H σ R (m2.bind fun j => .need (okRange i ∧ okRange j) (.ok (pyRange i j))) := k
    cases m2 with
    | ok j =>
      intro v F2 H2 a2 r
      cases (show v = V.int j from r)
      have k : KI K W F H σ R (.need (okRange i ∧ okRange j) (.ok (pyRange i j))) := k
      by_cases c : okRange i ∧ okRange j
      · rw [Res.need_pos c] at k
        exact ⟨i, j, rfl, ⟨c.1.1, c.1.2, c.2.1, c.2.2⟩, k _ F2 H2 (a.trans a2) js_range⟩
      · rw [Res.need_neg c] at k; exact k.elim
    | exc c => exact fun F2 H2 a2 => k F2 H2 (a.trans a2)
    | stuck => exact k.elim
  | exc c => exact k
  | stuck => exact k.elim
/-- range(i, j, -1) -/
def pyDown (i j : Int) : List Int := (List.range (i - j).toNat).map fun (a : Nat) => i - (a : Int)
theorem pyDown_len (lo hi : Int) : (pyDown lo hi).length = (lo - hi).toNat := by simp [pyDown]
theorem pyDown_get {lo hi : Int} {i : Nat} (h : i < (lo - hi).toNat) : (pyDown lo hi)[i]? = some (lo - (i : Int)) := by
  simp [pyDown, h]
theorem js_down {lo hi : Int} : JS K F (Itc lo (-1) (lo - hi).toNat) ((pyDown lo hi).map toD) := by
  refine ⟨fun i H e h => ?_, fun i H e h => ?_, fun i H v H' F1 e1 e2 h hy => ?_⟩
  · rw [List.length_map, pyDown_len] at h; exact h
  · rw [List.length_map, pyDown_len] at h; exact h
  · rw [List.length_map, pyDown_len] at h
    obtain ⟨e, q⟩ := hy
    subst e q
    refine ⟨F1, .int (lo - (i : Int)), Adv.refl e2, by rw [List.getElem?_map, pyDown_get h]; rfl, ?_⟩
    show V.int _ = V.int _
    congr 1; omega
theorem ei_down {m1 m2 : Res Int} (h1 : EvX K W env ta m1) (h2 : EvX K W env tb m2) (h3 : EvX K W env tc (.ok (-1 : Int))) : EvI K W env (iRng3 (tCons ta (tCons tb (tCons tc tNil)))) (m1.bind fun i => m2.bind fun j => .need (okRange i ∧ okRange j) (.ok (pyDown i j))) := fun F0 H0 F H σ R S k => by
  refine h1 F0 H0 F H σ _ S ?_
  cases m1 with
  | ok i =>
    intro v F1 H1 a r
    cases (show v = V.int i from r)
    refine h2 F0 H0 F1 H1 σ _ (S.step a) ?_
    have k : KI K W F H σ R (m2.bind fun j => .need (okRange i ∧ okRange j) (.ok (pyDown i j))) := k
    cases m2 with
    | ok j =>
      intro v F2 H2 a2 r
      cases (show v = V.int j from r)
      refine h3 F0 H0 F2 H2 σ _ ((S.step a).step a2) fun v F3 H3 a3 r => ?_
      cases (show v = V.int (-1) from r)
      have k : KI K W F H σ R (.need (okRange i ∧ okRange j) (.ok (pyDown i j))) := k
      by_cases c : okRange i ∧ okRange j
      · rw [Res.need_pos c] at k
        exact ⟨i, j, -1, (i - j).toNat, rfl, RgC.neg c.1.1 c.1.2 c.2.1 c.2.2, k _ F3 H3 ((a.trans a2).trans a3) js_down⟩
      · rw [Res.need_neg c] at k; exact k.elim
    | exc c => exact fun F2 H2 a2 => k F2 H2 (a.trans a2)
    | stuck => exact k.elim
  | exc c => exact k
  | stuck => exact k.elim

theorem blk_for {S : Type} {wi : TI} {g : TG} {tb : TS} {m : Res (List α)} {fe : α → En → En} {ws : List Nat} (loop : List α → S → Res τ) (k : S → Res τ) (envS : S → En) (s0 : S)
    (L : Lk K W F0 H0 rt PT KP) (hT : PT env) (hi : EvI K W env wi m) (hg : ∀ x, GX K g (toD x) (fe x) ws) (h0 : EnLe env (envS s0)) (hnil : ∀ s, loop [] s = k s)
    (hbody : ∀ F1, Lk K W F1 H0 rt PT KP → (∀ s, Blk K F1 H0 KP Z.nx (envS s) (k s)) → ∀ x r s (N : L2.St → Hp → Prop), (∀ s', Blk K F1 H0 KP N (envS s') (loop r s')) →
      Blk K F1 H0 KP (tb { Z with nx := N, ct := N, bk := Z.nx }) (fe x (envS s)) (loop (x :: r) s))
    (hrest : ∀ s, Blk K F0 H0 KP Z.nx (envS s) (k s)) : Blk K F0 H0 KP (tFor wi g tb Z) env (m.bind fun xs => loop xs s0) := fun F H σ S h => by
  refine hi F0 H0 F H σ _ S (L.ki hT S h fun xs J F1 H1 e1 a1 js h1 => ?_)
  have S1 := (S.step a1).weak h0
  have S11 : Sl K F1 H0 F1 H1 σ (envS s0) := ⟨⟨Ex.refl _, S1.adv.h, S1.adv.in_, fun p q _ => q⟩, S1.slot, S1.dis, S1.len⟩
  have hB := hbody F1 (L.base S1) (fun s => (hrest s).base S1)
  have hn : (xs.map toD).length = xs.length := List.length_map ..
  refine ⟨fun i m σ H => m = xs.length - i ∧ i ≤ xs.length ∧ ∃ F s, Sl K F1 H0 F H σ (envS s) ∧ KP (loop (xs.drop i) s), ⟨xs.length, rfl, Nat.zero_le _, F1, s0, S11, h1⟩, ?_⟩
  rintro i m σ H ⟨rfl, hle, F, s, S, h⟩
  by_cases hlt : i < xs.length
  · refine .inr ⟨js.go i H (S.adv.f.trans S.ex) (by rw [hn]; exact hlt), fun σ' H' => ∃ F s, Sl K F1 H0 F H' σ' (envS s) ∧ KP (loop (xs.drop (i + 1)) s), fun σ' H' w => ⟨_, by omega, rfl, hlt, w⟩, fun v H' hy => ?_⟩
    obtain ⟨F2, x, a2, ex, rx⟩ := js.yld i H v H' F S.adv.f S.ex (by rw [hn]; exact hlt) hy
    rw [List.getElem?_map, List.getElem?_eq_getElem hlt] at ex
    cases ex
    refine hg xs[i] F1 H0 F2 H' σ (envS s) v _ (S.step a2) rx fun σ' S' _ _ => ?_
    have e : xs.drop i = xs[i] :: xs.drop (i + 1) := List.drop_eq_getElem_cons hlt
    rw [e] at h
    exact hB xs[i] (xs.drop (i + 1)) s _ (fun s' F H σ S h => ⟨F, s', S, h⟩) F2 H' σ' S' h
  · have e : xs.drop i = [] := List.drop_of_length_le (by omega)
    rw [e, hnil] at h
    exact .inl ⟨js.stop i H (S.adv.f.trans S.ex) (by rw [hn]; omega), (hrest s).base S1 F H σ S h⟩
theorem blk_while {S : Type} {tb : TS} (loop : Nat → S → Res τ) (test : S → Res Bool) (body : Nat → S → Res τ) (k : S → Res τ) (envS : S → En) (s0 : S) (fuel : Nat)
    (L : Lk K W F0 H0 rt PT KP) (hT : ∀ s, PT (envS s)) (h0 : EnLe env (envS s0)) (hc : ∀ s, EvT K W (envS s) tt (test s)) (l0 : ∀ s, loop 0 s = .stuck) (l1 : ∀ n s, loop (n + 1) s = (test s).bind fun b => cond b (body n s) (k s))
    (hbody : ∀ n s (N : L2.St → Hp → Prop), (∀ s', Blk K F0 H0 KP N (envS s') (loop n s')) → Blk K F0 H0 KP (tb { Z with nx := N, ct := N, bk := Z.nx }) (envS s) (body n s))
    (hrest : ∀ s, Blk K F0 H0 KP Z.nx (envS s) (k s)) : Blk K F0 H0 KP (tWhile tt tb Z) env (loop fuel s0) := fun F H σ S h => by
  refine ⟨fun n σ H => ∃ F s, Sl K F0 H0 F H σ (envS s) ∧ KP (loop n s), ⟨fuel, F, s0, S.weak h0, h⟩, ?_⟩
  rintro n σ H ⟨F, s, S, h⟩
  cases n with
  | zero => rw [l0] at h; exact (L.no h).elim
  | succ n =>
    rw [l1] at h
    refine hc s F0 H0 F H σ _ S (L.kt (hT s) S h fun b F1 H1 e1 a1 h1 => ?_)
    cases b with
    | true =>
      show ∃ N, _
      exact ⟨fun σ' H' => ∃ F s, Sl K F0 H0 F H' σ' (envS s) ∧ KP (loop n s), fun σ' H' w => ⟨n, Nat.lt_succ_self n, w⟩, hbody n s _ (fun s' F H σ S h => ⟨F, s', S, h⟩) F1 H1 σ (S.step a1) h1⟩
    | false => exact hrest s F1 H1 σ (S.step a1) h1

/-! ### comprehensions -/
def compL {α β : Type} (t : α → Res Bool) (e : α → Res β) : List α → Res (List β)
  | [] => .ok []
  | x :: r => (t x).bind fun b => cond b ((e x).bind fun y => (compL t e r).bind fun ys => .ok (y :: ys)) (compL t e r)
def mapL {α β : Type} (e : α → Res β) : List α → Res (List β)
  | [] => .ok []
  | x :: r => (e x).bind fun y => (mapL e r).bind fun ys => .ok (y :: ys)
theorem compL_yes {α β : Type} (e : α → Res β) : ∀ xs : List α, compL (fun _ => .ok true) e xs = mapL e xs
  | [] => rfl
  | x :: r => by
    show (e x).bind _ = (e x).bind _
    rw [compL_yes e r]
end
end Mi
set_option maxHeartbeats 1000000
namespace Mi
open PySem PySem.Spec L2
open Evl (Ex)
section
variable {K : PySem.W.Frag} {W : WX} {F0 H0 F H F' H' F1 : Hp} {rt : VK} {PT : En → Prop} {env env' : En} {α β γ τ : Type} [ToD α] [ToD β] [ToD γ] [ToD τ] {KP : Res τ → Prop} {te ta tb tc : TE} {tt : TT} {Z : Ends} {t u : TS} {T : L2.St → Hp → Prop} {σ : L2.St}

/-! ### comprehensions -/
theorem Sl.updN (S : Sl K F0 H0 F H σ env) {p : Addr} {o : HO} (hp : F p = none) (h0 : H0 p = none) (hn : ∀ (i : Nat) (sk : Sk), env[i]? = some (some sk) → sk.own = true → σ[i]? ≠ some (some (V.ref p))) : Sl K F0 H0 F (upd H p o) σ env := by
  refine ⟨⟨S.adv.f, fun a u q => ?_, fun a u q => ?_, S.adv.out⟩, fun j sk q => ?_, S.dis, S.len⟩
  · rw [upd_ne (ne_of_none q h0)]; exact S.adv.h a u q
  · rw [upd_ne (ne_of_none q hp)]; exact S.adv.in_ a u q
  · obtain ⟨w, h1, h2⟩ := S.slot j sk q
    exact ⟨w, h1, h2.updH fun o2 zz => hn j sk q o2 (by rw [h1, zz])⟩
/-- the names of a comprehension are forgotten -/
def unset : List Nat → En → En
  | [], e => e
  | i :: is, e => (unset is e).set i none
theorem unset_len (e : En) : ∀ ws : List Nat, (unset ws e).length = e.length
  | [] => rfl
  | i :: is => by show ((unset is e).set i none).length = _; rw [List.length_set, unset_len e is]
theorem unset_get {e : En} {j : Nat} {sk : Sk} : ∀ {ws : List Nat}, (unset ws e)[j]? = some (some sk) → e[j]? = some (some sk) ∧ j ∉ ws
  | [], h => ⟨h, by simp⟩
  | i :: is, h => by
    have h : ((unset is e).set i none)[j]? = some (some sk) := h
    rcases set_get h with ⟨_, z⟩ | ⟨z, h⟩
    · cases z
    · obtain ⟨h1, h2⟩ := unset_get h
      exact ⟨h1, by simp only [List.mem_cons, not_or]; exact ⟨fun e => z e.symm, h2⟩⟩
theorem Sl.wipe (S : Sl K F0 H0 F H σ env) (ws : List Nat) : Sl K F0 H0 F H (L2.wipe σ ws) (unset ws env) := by
  refine ⟨S.adv, fun i sk e => ?_, fun i j xs ys p hij e1 e2 o1 o2 h1 => ?_, by rw [wipe_length, unset_len]; exact S.len⟩
  · obtain ⟨e, hn⟩ := unset_get e
    rw [wipe_out hn]; exact S.slot i sk e
  · obtain ⟨e1, n1⟩ := unset_get e1
    obtain ⟨e2, n2⟩ := unset_get e2
    rw [wipe_out n1] at h1
    rw [wipe_out n2]
    exact S.dis i j xs ys p hij e1 e2 o1 o2 h1
theorem wipe_in {j : Nat} : ∀ {ws : List Nat}, j ∈ ws → j < σ.length → (L2.wipe σ ws)[j]? = some none
  | [], h, _ => by cases h
  | i :: is, h, hl => by
    show ((L2.wipe σ is).set i none)[j]? = some none
    by_cases e : i = j
    · subst e
      rw [List.getElem?_set_self (by rw [wipe_length]; exact hl)]
    · rw [List.getElem?_set_ne e]
      rcases List.mem_cons.mp h with z | z
      · exact absurd z.symm e
      · exact wipe_in z hl
theorem wipe_eq {σ' : L2.St} {ws : List Nat} (hl : σ'.length = (L2.wipe σ ws).length) (ho : ∀ j, j ∉ ws → σ'[j]? = (L2.wipe σ ws)[j]?) : L2.wipe σ' ws = L2.wipe σ ws := by
  rw [wipe_length] at hl
  apply List.ext_getElem?
  intro j
  by_cases hj : j ∈ ws
  · by_cases hlt : j < σ.length
    · rw [wipe_in hj hlt, wipe_in hj (by rw [hl]; exact hlt)]
    · rw [List.getElem?_eq_none (by rw [wipe_length]; omega), List.getElem?_eq_none (by rw [wipe_length]; omega)]
  · rw [wipe_out hj, ho j hj]
abbrev WT : WX := fun _ _ _ _ => True
theorem ev_comp {wi : TI} {g : TG} {m : Res (List α)} {fe : α → En → En} {ws : List Nat} {tst : α → Res Bool} {el : α → Res β} (hi : EvI K W env wi m) (hg : ∀ x, GX K g (toD x) (fe x) ws)
    (ht : ∀ x, EvT K WT (fe x (unset ws env)) tt (tst x)) (he : ∀ x, EvX K WT (fe x (unset ws env)) te (el x)) :
    EvN K W env (tLc wi g tt te ws) (m.bind fun xs => .need (xs.length ≤ 16777216) (compL tst el xs)) := fun F0 H0 F H σ Q S k => by
  refine hi F0 H0 F H σ _ S ?_
  cases m with
  | exc c => exact k
  | stuck => exact k.elim
  | ok xs =>
  intro J F1 H1 a1 js D hD
  have k : KN K W F H σ Q (.need (xs.length ≤ 16777216) (compL tst el xs)) := k
  by_cases c : xs.length ≤ 16777216
  case neg => rw [Res.need_neg c] at k; exact k.elim
  rw [Res.need_pos c] at k
  have hn : (xs.map toD).length = xs.length := List.length_map ..
  have hDF : F1 D = none := none_of_ex a1.in_ hD
  have hDH : H D = none := Evl.fresh_back a1.h hD
  have hD0 : H0 D = none := Evl.fresh_back S.adv.h hDH
  -- the new list is none of the slots'
  have hne : ∀ (i : Nat) (sk : Sk), env[i]? = some (some sk) → sk.own = true → σ[i]? ≠ some (some (V.ref D)) := fun i sk e ho z => by
    obtain ⟨v, e1, q⟩ := S.slot i _ e
    obtain ⟨p, o, rfl, _, _, q⟩ := q.at ho
    rw [e1] at z; cases z
    rw [hDH] at q; cases q
  have S1 : Sl K F0 H0 F1 (upd H1 D (.lst [])) σ env := (S.step a1).updN hDF hD0 hne
  refine ⟨fun i n H' => n = xs.length - i ∧ i ≤ xs.length ∧ ∃ F' acc vs, Sl K F0 H0 F' H' σ env ∧ Adv F H F' H' ∧ Ex F1 F' ∧ F' D = none ∧ H' D = some (.lst vs) ∧ Reps K F' (acc.map toD) vs ∧ acc.length ≤ i ∧
    (∀ ys, compL tst el (xs.drop i) = .ok ys → compL tst el xs = .ok (acc ++ ys)) ∧ (∀ c, compL tst el (xs.drop i) = .exc c → compL tst el xs = .exc c) ∧ (compL tst el (xs.drop i) = .stuck → compL tst el xs = .stuck),
    ⟨xs.length, rfl, Nat.zero_le _, F1, ([] : List β), [], S1, a1.trans (Adv.newO a1.in_ hD), Ex.refl _, hDF, upd_same, (show Reps K F1 [] [] from rfl), Nat.le_refl _, fun ys h => h, fun c h => h, fun h => h⟩, ?_⟩
  rintro i n H2 ⟨rfl, hle, F2, acc, vs, S2, a2, x2, f2, h2, r2, l2, q1, q2, q3⟩
  by_cases hlt : i < xs.length
  · refine .inr ⟨js.go i H2 (x2.trans a2.in_) (by rw [hn]; exact hlt), fun H' => (i + 1 ≤ xs.length ∧ ∃ F' acc vs, Sl K F0 H0 F' H' σ env ∧ Adv F H F' H' ∧ Ex F1 F' ∧ F' D = none ∧ H' D = some (.lst vs) ∧ Reps K F' (acc.map toD) vs ∧ acc.length ≤ i + 1 ∧
      (∀ ys, compL tst el (xs.drop (i + 1)) = .ok ys → compL tst el xs = .ok (acc ++ ys)) ∧ (∀ c, compL tst el (xs.drop (i + 1)) = .exc c → compL tst el xs = .exc c) ∧ (compL tst el (xs.drop (i + 1)) = .stuck → compL tst el xs = .stuck)),
      fun H' w => ⟨_, by omega, rfl, w⟩, fun v H3 hy => ?_⟩
    obtain ⟨F3, x, a3, ex, rx⟩ := js.yld i H2 v H3 F2 x2 a2.in_ (by rw [hn]; exact hlt) hy
    rw [List.getElem?_map, List.getElem?_eq_getElem hlt] at ex
    cases ex
    have e : xs.drop i = xs[i] :: xs.drop (i + 1) := List.drop_eq_getElem_cons hlt
    rw [e] at q1 q2 q3
    have S3 := S2.step a3
    refine hg xs[i] F0 H0 F3 H3 _ _ v _ (S3.wipe ws) rx fun σ' S' sl so => ⟨wipe_eq sl so, ?_⟩
    have f3 : F3 D = none := a3.out D f2 (by rw [h2]; simp)
    refine ht xs[i] F0 H0 F3 H3 σ' _ S' ?_
    cases qt : tst xs[i] with
    | exc c => exact fun _ _ _ => trivial
    | stuck =>
      have := q3 (by show (tst xs[i]).bind _ = _; rw [qt]; rfl)
      rw [this] at k; exact k.elim
    | ok b =>
    intro F4 H4 a4
    have f4 : F4 D = none := a4.out D f3 (by rw [a3.h _ _ h2]; simp)
    cases b with
    | false =>
      show i + 1 ≤ xs.length ∧ _
      refine ⟨hlt, F4, acc, vs, S3.step a4, (a2.trans a3).trans a4, (x2.trans a3.f).trans a4.f, f4, a4.h _ _ (a3.h _ _ h2), Reps.mono (a3.trans a4).f _ _ r2, by omega, fun ys h => ?_, fun c h => ?_, fun h => ?_⟩
      · exact q1 ys (by show (tst xs[i]).bind _ = _; rw [qt]; exact h)
      · exact q2 c (by show (tst xs[i]).bind _ = _; rw [qt]; exact h)
      · exact q3 (by show (tst xs[i]).bind _ = _; rw [qt]; exact h)
    | true =>
      show te σ' H4 _
      refine he xs[i] F0 H0 F4 H4 σ' _ (S'.step a4) ?_
      cases qe : el xs[i] with
      | exc c => exact fun _ _ _ => trivial
      | stuck =>
        have := q3 (by show (tst xs[i]).bind _ = _; rw [qt]; show (el xs[i]).bind _ = _; rw [qe]; rfl)
        rw [this] at k; exact k.elim
      | ok y =>
      intro w F5 H5 a5 r5
      have f5 : F5 D = none := a5.out D f4 (by rw [a4.h _ _ (a3.h _ _ h2)]; simp)
      have h5 : H5 D = some (.lst vs) := a5.h _ _ (a4.h _ _ (a3.h _ _ h2))
      have ad := ((a2.trans a3).trans a4).trans a5
      refine ⟨vs, h5, by rw [sizeLine_eq, ← r2.length, List.length_map]; omega, hlt, F5, acc ++ [y], vs ++ [w], ((S3.step a4).step a5).updN f5 hD0 hne, ⟨ad.f, fun a u q => ?_, fun a u q => ?_, ad.out⟩,
        ((x2.trans a3.f).trans a4.f).trans a5.f, f5, upd_same, ?_, by rw [List.length_append]; simp; omega, fun ys h => ?_, fun c h => ?_, fun h => ?_⟩
      · rw [upd_ne (ne_of_none q hDH)]; exact ad.h a u q
      · rw [upd_ne (ne_of_none q f5)]; exact ad.in_ a u q
      · rw [List.map_append]
        exact Reps.append (Reps.mono ((a3.trans a4).trans a5).f _ _ r2) (Reps.one r5)
      · rw [q1 (y :: ys) (by show (tst xs[i]).bind _ = _; rw [qt]; show (el xs[i]).bind _ = _; rw [qe]; show (compL tst el _).bind _ = _; rw [h]; rfl)]
        rw [List.append_assoc]; rfl
      · exact q2 c (by show (tst xs[i]).bind _ = _; rw [qt]; show (el xs[i]).bind _ = _; rw [qe]; show (compL tst el _).bind _ = _; rw [h]; rfl)
      · exact q3 (by show (tst xs[i]).bind _ = _; rw [qt]; show (el xs[i]).bind _ = _; rw [qe]; show (compL tst el _).bind _ = _; rw [h]; rfl)
  · have e : xs.drop i = [] := List.drop_of_length_le (by omega)
    rw [e] at q1
    have := q1 [] rfl
    rw [List.append_nil] at this
    rw [this] at k
    exact .inl ⟨js.stop i H2 (x2.trans a2.in_) (by rw [hn]; omega), k D vs F2 H2 a2 hDH f2 h2 r2⟩
theorem et_yes : EvT K W env tYes (.ok true) := fun F0 H0 F H σ Q S k => k F H (Adv.refl S.ex)

/-! ### built-in defs -/
theorem cx_len : CrX K (fun xs H Q => ∃ p ys, xs = [.ref p] ∧ (SqL K H p ys ∨ SqT K H p ys) ∧ Q (.int ys.length) H) (fun (p : List α × Unit) => .ok (p.1.length : Int)) := fun F H x vs Q e r k => by
  obtain ⟨v, r1, rfl, ⟨a, ws, rfl, hl, hr⟩, h2⟩ := r
  cases (show r1 = [] from h2)
  refine ⟨a, ws, rfl, .inl (sq_ex e hl), ?_⟩
  rw [← hr.length, List.length_map]
  exact k _ F H (Adv.refl e) rfl
theorem cx_lenT {n : Nat} (hn : ∀ x : α, ∃ ds, toD x = .tup ds ∧ ds.length = n) : CrX K (fun xs H Q => ∃ p ys, xs = [.ref p] ∧ (SqL K H p ys ∨ SqT K H p ys) ∧ Q (.int ys.length) H) (fun (p : α × Unit) => .ok (n : Int)) := fun F H x vs Q e r k => by
  obtain ⟨v, r1, rfl, hv, h2⟩ := r
  obtain ⟨ds, e1, e2⟩ := hn x.1
  have hv : Rep K F (toD x.1) v := hv
  rw [e1] at hv
  obtain ⟨a, ws, rfl, hl, hr⟩ := hv
  cases (show r1 = [] from h2)
  refine ⟨a, ws, rfl, .inr (Evl.ex_t e hl), ?_⟩
  rw [← hr.length, e2]
  exact k _ F H (Adv.refl e) rfl
theorem ev_lenO {j : Nat} {xs : List α} (h : env[j]? = some (some (.ow (xs.map toD)))) : EvX K W env (tCB (fun xs H Q => ∃ p ys, xs = [V.ref p] ∧ (SqL K H p ys ∨ SqT K H p ys) ∧ Q (.int ys.length) H) (tCons (tVar j) tNil)) (.ok (xs.length : Int)) := fun F0 H0 F H σ Q S k => by
  obtain ⟨v, e, p, vs, rfl, h0, hf, hp, hr⟩ := S.slot j _ h
  refine ⟨_, e, p, vs, rfl, .inl (.inl (.inl hp)), ?_⟩
  rw [← hr.length, List.length_map]
  exact k _ F H (Adv.refl S.ex) rfl
theorem cx_abs : CrX K (fun xs H Q => ∃ i, xs = [.int i] ∧ Q (.int (if i < 0 then -i else i)) H) (fun (p : Int × Unit) => .ok (p.1.natAbs : Int)) := fun F H x vs Q e r k => by
  obtain ⟨v, r1, rfl, h1, h2⟩ := r
  cases (show r1 = [] from h2); cases (show v = V.int x.1 from h1)
  refine ⟨x.1, rfl, ?_⟩
  have q : (if x.1 < 0 then -x.1 else x.1) = (x.1.natAbs : Int) := by split <;> omega
  rw [q]
  exact k _ F H (Adv.refl e) rfl
theorem cx_max : CrX K (fun xs H Q => ∃ i j, xs = [.int i, .int j] ∧ Q (.int (if j > i then j else i)) H) (fun (p : Int × Int × Unit) => .ok (max p.1 p.2.1)) := fun F H x vs Q e r k => by
  obtain ⟨v, r1, rfl, h1, w, r2, rfl, h2, h3⟩ := r
  cases (show r2 = [] from h3); cases (show v = V.int x.1 from h1); cases (show w = V.int x.2.1 from h2)
  refine ⟨x.1, x.2.1, rfl, ?_⟩
  have q : (if x.2.1 > x.1 then x.2.1 else x.1) = max x.1 x.2.1 := by split <;> omega
  rw [q]
  exact k _ F H (Adv.refl e) rfl
theorem cx_min : CrX K (fun xs H Q => ∃ i j, xs = [.int i, .int j] ∧ Q (.int (if j < i then j else i)) H) (fun (p : Int × Int × Unit) => .ok (min p.1 p.2.1)) := fun F H x vs Q e r k => by
  obtain ⟨v, r1, rfl, h1, w, r2, rfl, h2, h3⟩ := r
  cases (show r2 = [] from h3); cases (show v = V.int x.1 from h1); cases (show w = V.int x.2.1 from h2)
  refine ⟨x.1, x.2.1, rfl, ?_⟩
  have q : (if x.2.1 < x.1 then x.2.1 else x.1) = min x.1 x.2.1 := by split <;> omega
  rw [q]
  exact k _ F H (Adv.refl e) rfl
theorem cx_int : CrX K (fun xs H Q => (∃ i, xs = [.int i] ∧ Q (.int i) H) ∨ ∃ k, xs = [.bl k] ∧ Q (.int (if k then 1 else 0)) H) (fun (p : Int × Unit) => .ok p.1) := fun F H x vs Q e r k => by
  obtain ⟨v, r1, rfl, h1, h2⟩ := r
  cases (show r1 = [] from h2); cases (show v = V.int x.1 from h1)
  exact .inl ⟨x.1, rfl, k _ F H (Adv.refl e) rfl⟩
theorem cx_intB : CrX K (fun xs H Q => (∃ i, xs = [.int i] ∧ Q (.int i) H) ∨ ∃ k, xs = [.bl k] ∧ Q (.int (if k then 1 else 0)) H) (fun (p : Bool × Unit) => .ok (if p.1 = true then (1 : Int) else 0)) := fun F H x vs Q e r k => by
  obtain ⟨v, r1, rfl, h1, h2⟩ := r
  cases (show r1 = [] from h2); cases (show v = V.bl x.1 from h1)
  exact .inr ⟨x.1, rfl, k _ F H (Adv.refl e) rfl⟩
/-- the greatest, the least of a list that is not empty -/
def lmax : List Int → Int
  | [] => 0
  | x :: r => r.foldl max x
def lmin : List Int → Int
  | [] => 0
  | x :: r => r.foldl min x
theorem foldl_max_ge (r : List Int) : ∀ x, x ≤ r.foldl max x ∧ ∀ y ∈ r, y ≤ r.foldl max x := by
  induction r with
  | nil => intro x; exact ⟨Int.le_refl _, fun y h => by cases h⟩
  | cons a r ih =>
    intro x
    obtain ⟨h1, h2⟩ := ih (max x a)
    refine ⟨by have : x ≤ max x a := Int.le_max_left ..; exact Int.le_trans this h1, fun y hy => ?_⟩
    rcases List.mem_cons.mp hy with rfl | hy
    · exact Int.le_trans (Int.le_max_right ..) h1
    · exact h2 y hy
theorem foldl_max_mem (r : List Int) : ∀ x, r.foldl max x = x ∨ r.foldl max x ∈ r := by
  induction r with
  | nil => intro x; exact .inl rfl
  | cons a r ih =>
    intro x
    rcases ih (max x a) with h | h
    · show List.foldl max (max x a) r = x ∨ List.foldl max (max x a) r ∈ _
      rw [h]
      by_cases c : x ≤ a
      · rw [Int.max_eq_right c]; exact .inr List.mem_cons_self
      · rw [Int.max_eq_left (by omega)]; exact .inl rfl
    · exact .inr (List.mem_cons_of_mem _ h)
theorem foldl_min_le (r : List Int) : ∀ x, r.foldl min x ≤ x ∧ ∀ y ∈ r, r.foldl min x ≤ y := by
  induction r with
  | nil => intro x; exact ⟨Int.le_refl _, fun y h => by cases h⟩
  | cons a r ih =>
    intro x
    obtain ⟨h1, h2⟩ := ih (min x a)
    refine ⟨by have : min x a ≤ x := Int.min_le_left ..; exact Int.le_trans h1 this, fun y hy => ?_⟩
    rcases List.mem_cons.mp hy with rfl | hy
    · exact Int.le_trans h1 (Int.min_le_right ..)
    · exact h2 y hy
theorem foldl_min_mem (r : List Int) : ∀ x, r.foldl min x = x ∨ r.foldl min x ∈ r := by
  induction r with
  | nil => intro x; exact .inl rfl
  | cons a r ih =>
    intro x
    rcases ih (min x a) with h | h
    · show List.foldl min (min x a) r = x ∨ List.foldl min (min x a) r ∈ _
      rw [h]
      by_cases c : x ≤ a
      · rw [Int.min_eq_left c]; exact .inl rfl
      · rw [Int.min_eq_right (by omega)]; exact .inr List.mem_cons_self
    · exact .inr (List.mem_cons_of_mem _ h)
theorem lmax_spec {ns : List Int} {m : Int} (h1 : m ∈ ns) (h2 : ∀ y ∈ ns, y ≤ m) : m = lmax ns := by
  cases ns with
  | nil => cases h1
  | cons x r =>
    show m = r.foldl max x
    obtain ⟨g1, g2⟩ := foldl_max_ge r x
    have a : m ≤ r.foldl max x := by
      rcases List.mem_cons.mp h1 with rfl | h
      · exact g1
      · exact g2 m h
    have b : r.foldl max x ≤ m := by
      rcases foldl_max_mem r x with e | e
      · rw [e]; exact h2 x List.mem_cons_self
      · exact h2 _ (List.mem_cons_of_mem _ e)
    omega
theorem lmin_spec {ns : List Int} {m : Int} (h1 : m ∈ ns) (h2 : ∀ y ∈ ns, m ≤ y) : m = lmin ns := by
  cases ns with
  | nil => cases h1
  | cons x r =>
    show m = r.foldl min x
    obtain ⟨g1, g2⟩ := foldl_min_le r x
    have a : r.foldl min x ≤ m := by
      rcases List.mem_cons.mp h1 with rfl | h
      · exact g1
      · exact g2 m h
    have b : m ≤ r.foldl min x := by
      rcases foldl_min_mem r x with e | e
      · rw [e]; exact h2 x List.mem_cons_self
      · exact h2 _ (List.mem_cons_of_mem _ e)
    omega
theorem cx_lmax : CrX K (rMax K) (fun (p : List Int × Unit) => .need (0 < p.1.length) (.ok (lmax p.1))) := fun F H x vs Q e r k => by
  obtain ⟨v, r1, rfl, ⟨a, ws, rfl, hl, hr⟩, h2⟩ := r
  cases (show r1 = [] from h2)
  have e2 : ws = x.1.map V.int := Reps.ints hr
  subst e2
  by_cases c : 0 < x.1.length
  · dsimp only at k
    rw [Res.need_pos c] at k
    refine ⟨a, x.1, rfl, sq_ex e hl, c, fun m h1 h2 => ?_⟩
    rw [lmax_spec h1 h2]
    exact k _ F H (Adv.refl e) rfl
  · dsimp only at k; rw [Res.need_neg c] at k; exact k.elim
theorem cx_lmin : CrX K (rMin K) (fun (p : List Int × Unit) => .need (0 < p.1.length) (.ok (lmin p.1))) := fun F H x vs Q e r k => by
  obtain ⟨v, r1, rfl, ⟨a, ws, rfl, hl, hr⟩, h2⟩ := r
  cases (show r1 = [] from h2)
  have e2 : ws = x.1.map V.int := Reps.ints hr
  subst e2
  by_cases c : 0 < x.1.length
  · dsimp only at k
    rw [Res.need_pos c] at k
    refine ⟨a, x.1, rfl, sq_ex e hl, c, fun m h1 h2 => ?_⟩
    rw [lmin_spec h1 h2]
    exact k _ F H (Adv.refl e) rfl
  · dsimp only at k; rw [Res.need_neg c] at k; exact k.elim
theorem cx_sum : CrX K (rSum K) (fun (p : List Int × Unit) => .ok p.1.sum) := fun F H x vs Q e r k => by
  obtain ⟨v, r1, rfl, ⟨a, ws, rfl, hl, hr⟩, h2⟩ := r
  cases (show r1 = [] from h2)
  have e2 : ws = x.1.map V.int := Reps.ints hr
  subst e2
  exact ⟨a, x.1, rfl, sq_ex e hl, k _ F H (Adv.refl e) rfl⟩
theorem cx_all : CrX K (rAll K) (fun (p : List Bool × Unit) => .ok (p.1.all id)) := fun F H x vs Q e r k => by
  obtain ⟨v, r1, rfl, ⟨a, ws, rfl, hl, hr⟩, h2⟩ := r
  cases (show r1 = [] from h2)
  have e2 : ws = x.1.map V.bl := Reps.bls hr
  subst e2
  exact ⟨a, x.1, rfl, sq_ex e hl, k _ F H (Adv.refl e) rfl⟩
theorem cx_any : CrX K (rAny K) (fun (p : List Bool × Unit) => .ok (p.1.any id)) := fun F H x vs Q e r k => by
  obtain ⟨v, r1, rfl, ⟨a, ws, rfl, hl, hr⟩, h2⟩ := r
  cases (show r1 = [] from h2)
  have e2 : ws = x.1.map V.bl := Reps.bls hr
  subst e2
  exact ⟨a, x.1, rfl, sq_ex e hl, k _ F H (Adv.refl e) rfl⟩
/-- list(xs): a new list -/
theorem en_list {m : Res (List α)} (h : EvX K W env te m) : EvN K W env (tCB (fun xs H Q => ∃ p ys, xs = [V.ref p] ∧ (SqL K H p ys ∨ SqT K H p ys) ∧ ∀ l, H l = none → Q (.ref l) (upd H l (.lst ys))) (tCons te tNil)) m := fun F0 H0 F H σ Q S k => by
  refine h F0 H0 F H σ _ S ?_
  cases m with
  | ok xs =>
    intro v F1 H1 a r
    obtain ⟨p, vs, rfl, h1, h2⟩ := r
    exact ⟨p, vs, rfl, .inl (sq_ex a.in_ h1), fun l hl => k l vs F1 _ (a.trans (Adv.newO a.in_ hl)) (Evl.fresh_back a.h hl) (none_of_ex a.in_ hl) upd_same h2⟩
  | exc c => exact k
  | stuck => exact k.elim
theorem en_listT {m : Res (Tu α)} (h : EvX K W env te m) : EvN K W env (tCB (fun xs H Q => ∃ p ys, xs = [V.ref p] ∧ (SqL K H p ys ∨ SqT K H p ys) ∧ ∀ l, H l = none → Q (.ref l) (upd H l (.lst ys))) (tCons te tNil)) (m.bind fun x => .ok x.xs) := fun F0 H0 F H σ Q S k => by
  refine h F0 H0 F H σ _ S ?_
  cases m with
  | ok xs =>
    intro v F1 H1 a r
    obtain ⟨p, vs, rfl, h1, h2⟩ := r
    exact ⟨p, vs, rfl, .inr (Evl.ex_t a.in_ h1), fun l hl => k l vs F1 _ (a.trans (Adv.newO a.in_ hl)) (Evl.fresh_back a.h hl) (none_of_ex a.in_ hl) upd_same h2⟩
  | exc c => exact k
  | stuck => exact k.elim
/-- tuple(xs) of a list -/
theorem ev_tupleL {m : Res (List α)} (h : EvX K W env te m) : EvX K W env (tCB (fun xs H Q => ∃ p ys, xs = [V.ref p] ∧ ((SqL K H p ys ∧ ∀ l, H l = none → Q (.ref l) (upd H l (.tup ys))) ∨ (SqT K H p ys ∧ Q (.ref p) H))) (tCons te tNil)) (m.bind fun x => .ok (Tu.mk x)) := fun F0 H0 F H σ Q S k => by
  refine h F0 H0 F H σ _ S ?_
  cases m with
  | ok xs =>
    intro v F1 H1 a r
    obtain ⟨p, vs, rfl, h1, h2⟩ := r
    refine ⟨p, vs, rfl, .inl ⟨sq_ex a.in_ h1, fun l hl => ?_⟩⟩
    have a2 : Adv F1 H1 (upd F1 l (.tup vs)) (upd H1 l (.tup vs)) := Adv.new a.in_ hl
    exact k _ _ _ (a.trans a2) ⟨l, vs, rfl, .inl (.inl upd_same), Reps.mono a2.f _ _ h2⟩
  | exc c => exact k
  | stuck => exact k.elim
/-- xs[lo:hi] -/
theorem en_slice {m : Res (List α)} {lo hi : Option Int} {tl th : TO} (h : EvX K W env te m) (hl : ∀ σ H Q, Q lo H → tl σ H Q) (hh : ∀ σ H Q, Q hi H → th σ H Q) :
    EvN K W env (tSl (rSlL K) te tl th) (m.bind fun xs => .ok ((xs.drop (HT.sIx xs.length 0 lo)).take (HT.sIx xs.length xs.length hi - HT.sIx xs.length 0 lo))) := fun F0 H0 F H σ Q S k => by
  refine h F0 H0 F H σ _ S ?_
  cases m with
  | ok xs =>
    intro v F1 H1 a r
    obtain ⟨p, vs, rfl, h1, h2⟩ := r
    refine hl _ _ _ (hh _ _ _ ⟨p, vs, rfl, sq_ex a.in_ h1, fun l hl => ?_⟩)
    refine k l _ F1 _ (a.trans (Adv.newO a.in_ hl)) (Evl.fresh_back a.h hl) (none_of_ex a.in_ hl) upd_same ?_
    have e : xs.length = vs.length := by have := h2.length; rwa [List.length_map] at this
    unfold cutV
    rw [List.map_take, List.map_drop, e]
    exact Reps.take _ (Reps.drop _ h2)
  | exc c => exact k
  | stuck => exact k.elim
theorem to_none : ∀ (σ : L2.St) (H : Hp) (Q : Option Int → Hp → Prop), Q none H → tNoPart σ H Q := fun _ _ _ q => q
theorem to_int {i : Int} : ∀ (σ : L2.St) (H : Hp) (Q : Option Int → Hp → Prop), Q (some i) H → tPart (tC (.int i)) σ H Q := fun _ _ _ q => ⟨i, rfl, q⟩

/-! ### isinstance of data -/
def tyName : D → String
  | .non => "NoneType" | .bl _ => "bool" | .int _ => "int" | .str _ => "str" | .ty _ => "type" | .tup _ => "tuple" | .lst _ => "list" | .obj _ _ _ => "object" | .ro _ => "list"
def D.plain : D → Bool
  | .ty _ => false | .obj _ _ _ => false | .ro _ => false | _ => true
theorem tyx_of {x : D} {v : V} (h : Rep K F x v) (e : Ex F H) (p : x.plain = true) : TyX K H v (.type (tyName x)) := by
  cases x with
  | non => rw [show v = V.non from h]; exact .base .non
  | bl b => rw [show v = V.bl b from h]; exact .base (.bl b)
  | int b => rw [show v = V.int b from h]; exact .base (.int b)
  | str b => rw [show v = V.str b from h]; exact .base (.str b)
  | ty b => cases p
  | obj c ks ds => cases p
  | ro ds => cases p
  | lst ds =>
    obtain ⟨a, vs, rfl, hl, _⟩ := h
    rcases sq_ex e hl with (q | ⟨o, q⟩) | ⟨o, its, n, q1, q2, _⟩
    · exact .base (.lst q)
    · exact .base (.frz q)
    · exact .kList q1 q2
  | tup ds =>
    obtain ⟨a, vs, rfl, hl, _⟩ := h
    rcases Evl.ex_t e hl with (q | ⟨o, q⟩) | ⟨o, its, n, q1, q2, _⟩
    · exact .base (.tup q)
    · exact .fTuple q
    · exact .kTuple q1 q2
/-- isinstance(x, T), T a built-in class, x any data but objects -/
def isI (n : String) (x : D) : Bool := tyName x == n || (n == "int" && tyName x == "bool")
def isiOk (n : String) : Prop := kitB "NoneType" n = some ("NoneType" == n) ∧ kitB "bool" n = some ("bool" == n || n == "int") ∧ kitB "int" n = some ("int" == n) ∧ kitB "str" n = some ("str" == n) ∧ kitB "tuple" n = some ("tuple" == n) ∧ kitB "list" n = some ("list" == n)
theorem ev_isi {n : String} {m : Res α} (hn : isiOk n) (h : EvX K W env te m) : EvX K W env (tCB (rIsi K) (tCons te (tCons (tC (.ty n)) tNil))) (m.bind fun x => .need ((toD x).plain = true) (.ok (isI n (toD x)))) := fun F0 H0 F H σ Q S k => by
  refine h F0 H0 F H σ _ S (KE.cut S.ex k fun x v F1 H1 e1 a1 r1 k1 => ?_)
  by_cases c : (toD x).plain = true
  · rw [Res.need_pos c] at k1
    refine ⟨v, .ty n, _, _, isI n (toD x), rfl, .ty n, tyx_of r1 a1.in_ c, ?_, k1 _ F1 H1 (Adv.refl a1.in_) rfl⟩
    refine kit_ty ?_
    obtain ⟨h1, h2, h3, h4, h5, h6⟩ := hn
    revert c
    generalize toD x = y
    intro c
    cases y with
    | non => rw [show tyName .non = "NoneType" from rfl, h1]; simp [isI, tyName]
    | bl b => rw [show tyName (.bl b) = "bool" from rfl, h2]; simp [isI, tyName]
    | int b => rw [show tyName (.int b) = "int" from rfl, h3]; simp [isI, tyName]
    | str b => rw [show tyName (.str b) = "str" from rfl, h4]; simp [isI, tyName]
    | tup b => rw [show tyName (.tup b) = "tuple" from rfl, h5]; simp [isI, tyName]
    | lst b => rw [show tyName (.lst b) = "list" from rfl, h6]; simp [isI, tyName]
    | ty b => cases c
    | obj a b d => cases c
    | ro a => cases c
  · rw [Res.need_neg c] at k1; exact k1.elim
theorem isi_int : isiOk "int" := by unfold isiOk; decide +kernel
theorem isi_bool : isiOk "bool" := by unfold isiOk; decide +kernel
theorem isi_list : isiOk "list" := by unfold isiOk; decide +kernel
theorem isi_tuple : isiOk "tuple" := by unfold isiOk; decide +kernel
theorem isi_str : isiOk "str" := by unfold isiOk; decide +kernel

/-! ### errors -/
/-- what a body of a try gives: it falls through, or it hands back -/
inductive Fall (S τ : Type) where
  | go (s : S) | back (x : τ)
instance {S τ : Type} [ToD τ] : ToD (Fall S τ) := ⟨fun x => match x with | .go _ => .obj Str.empty [] [.non] | .back x => ToD.d x⟩
theorem no_go {S : Type} {s : S} {v : V} (h : Rep K F (toD (Fall.go s : Fall S τ)) v) : False := by
  obtain ⟨a, dx, vs, _, _, h3, h4⟩ := h
  obtain ⟨w, r, e, _⟩ := h4
  subst e
  simp at h3
/-- the classes of the errors: which they are, which is under which -/
structure Cls (K : PySem.W.Frag) (cs : List Str) (sub : Str → Str → Bool) : Prop where
  exc : ∀ c ∈ cs, ExcC K (He.ga K c)
  exm : ∀ c ∈ cs, ∀ d ∈ cs, PySem.W.exmOne K (.ref (He.ga K c)) (.ref (He.ga K d)) = some (sub c d)
  kit : ∀ c ∈ cs, ∀ d ∈ cs, PySem.W.kitOne K (.ref (He.ga K c)) (.ref (He.ga K d)) = some (sub c d)
  kiv : ∀ c ∈ cs, PySem.W.kitOne K (.ref (He.ga K c)) (.type "ValueError") = some true
/-- the outcome of: try body, except X -/
def tryR {S τ : Type} (known : Str → Bool) (sub : Str → Bool) (m : Res (Fall S τ)) (rest : S → Res τ) (hd : Str → Res τ) : Res τ := match m with
  | .ok (.go s) => rest s
  | .ok (.back x) => .ok x
  | .exc c => if known c = true then (if sub c = true then hd c else .exc c) else .stuck
  | .stuck => .stuck
theorem Sl.setNone {K : PySem.W.Frag} {F0 H0 F H : Hp} {σ : L2.St} {env : En} (S : Sl K F0 H0 F H σ env) (i : Nat) : Sl K F0 H0 F H (σ.set i none) (env.set i none) := by
  refine ⟨S.adv, fun j sk e => ?_, fun j k xs ys p hjk e1 e2 o1 o2 h1 => ?_, by rw [List.length_set, List.length_set]; exact S.len⟩
  · rcases set_get e with ⟨_, z⟩ | ⟨z, e⟩
    · cases z
    · obtain ⟨w, q1, q2⟩ := S.slot j sk e
      exact ⟨w, by rw [List.getElem?_set_ne z]; exact q1, q2⟩
  · rcases set_get e1 with ⟨_, z⟩ | ⟨z1, e1⟩
    · cases z
    rcases set_get e2 with ⟨_, z⟩ | ⟨z2, e2⟩
    · cases z
    rw [List.getElem?_set_ne z1] at h1
    rw [List.getElem?_set_ne z2]
    exact S.dis j k xs ys p hjk e1 e2 o1 o2 h1
/-- the body falls through by s (envS s, rest s), or hands back; the suite hands back, or falls through to mr -/
theorem blk_tryAs {S : Type} {cs : List Str} {sub : Str → Str → Bool} {x : Str} {i : Nat} {tb : WX → TS} {ts : Addr → Value → Option Addr → TS} {envS : S → En} {m : Res (Fall S τ)} {rest : S → Res τ} {hd : Str → Res τ}
    (L : Lk K W F0 H0 rt PT KP) (hT : PT env) (C : Cls K cs sub) (hx : x ∈ cs)
    (hb : ∀ (W' : WX) (KP' : Res (Fall S τ) → Prop), Lk K W' F0 H0 rt (fun e => EnLe e env) KP' → (∀ s, Blk K F0 H0 KP' Z.nx (envS s) (.ok (.go s))) → Blk K F0 H0 KP' (tb W' Z) env m)
    (hs : ∀ (c : Str) (a : Addr) (nx bk ct : L2.St → Hp → Prop), c ∈ cs → sub c x = true → (∀ env' m', Blk K F0 H0 KP Z.nx (env'.set i none) m' → Blk K F0 H0 KP nx env' m') →
      Blk K F0 H0 KP (ts a (.ref (He.ga K c)) none { nx := nx, rt := rt, bk := bk, ct := ct }) (env.set i (some (.raw (.ref a)))) (hd c))
    (hr : ∀ s, Blk K F0 H0 KP Z.nx (envS s) (rest s)) (hZ : Z.rt = rt := by rfl) :
    Blk K F0 H0 KP (tb (wAs K (.ref (He.ga K x)) i ts W Z) Z) env (tryR (fun c => decide (c ∈ cs)) (fun c => sub c x) m rest hd) := fun F H σ S1 h => by
  subst hZ
  refine hb (wAs K (.ref (He.ga K x)) i ts W Z) (fun r => KP (tryR (fun c => decide (c ∈ cs)) (fun c => sub c x) r rest hd)) ⟨fun y h v F H a r => ?_, fun c F H σ env' h p S' => ?_, L.no⟩ (fun s F H σ S h => hr s F H σ S h) F H σ S1 h
  · cases y with
    | go s => exact (no_go r).elim
    | back y => exact L.ok y h v F H a r
  · have h : KP (if decide (c ∈ cs) = true then (if sub c x = true then hd c else .exc c) else .stuck) := h
    by_cases hc : c ∈ cs
    · rw [if_pos (decide_eq_true hc)] at h
      have S2 := S'.weak p
      refine ⟨sub c x, C.exm c hc x hx, fun q a ha => ?_, fun q => ?_⟩
      · rw [if_pos q] at h
        refine hs c a _ _ _ hc q (fun env' m' B F H σ S h => B F H _ (S.setNone i) h) F H _ ?_ h
        refine ⟨S2.adv, fun j sk e => ?_, fun j k xs ys p hjk e1 e2 o1 o2 h1 => ?_, by rw [List.length_set, List.length_set]; exact S2.len⟩
        · rcases set_get e with ⟨rfl, z⟩ | ⟨z, e⟩
          · cases z
            have hi : i < env.length := by
              have h := (List.getElem?_eq_some_iff.mp e).1
              rwa [List.length_set] at h
            exact ⟨_, by rw [List.getElem?_set_self (by rw [S2.len]; exact hi)], rfl⟩
          · obtain ⟨w, q1, q2⟩ := S2.slot j sk e
            exact ⟨w, by rw [List.getElem?_set_ne z]; exact q1, q2⟩
        · rcases set_get e1 with ⟨_, z⟩ | ⟨z1, e1⟩
          · cases z; cases o1
          rcases set_get e2 with ⟨_, z⟩ | ⟨z2, e2⟩
          · cases z; cases o2
          rw [List.getElem?_set_ne z1] at h1
          rw [List.getElem?_set_ne z2]
          exact S2.dis j k xs ys p hjk e1 e2 o1 o2 h1
      · rw [if_neg (by rw [q]; exact Bool.false_ne_true)] at h
        exact L.exc c F H σ env h hT S2
    · rw [if_neg (by simpa using hc)] at h
      exact (L.no h).elim
/-- isinstance(e, C), isinstance(e, (C1, C2)) in the suite -/
def rIsE2 (K : PySem.W.Frag) (a : Addr) (cls : Value) (d : Option Addr) : List V → Hp → VK → Prop := fun xs H Q => ∃ (Dc : Addr) (c : V) (cv : Value) (b : Bool), cls = .ref Dc ∧ d = none ∧ ExcC K Dc ∧ xs = [.ref a, c] ∧ (∀ u, RelV c u → u = cv) ∧ PySem.W.kitOne K (.ref Dc) cv = some b ∧ Q (.bl b) H
theorem call_isE2 {X : Cx} {a : Addr} {cls : Value} {d : Option Addr} {oe : Obj} {pn : List (Addr × Obj)} (hz : Zc cls d oe) (hf : ∃ vs, oe.data = .fields vs) : CallR (X.suite a ((a, oe) :: pn)) (.builtin "isinstance") (rIsE2 X.K a cls d) := by
  intro pins s σ H xs us Q I r h
  obtain ⟨Dc, c, cv, b, rfl, rfl, C, e, k, q, hQ⟩ := h
  exact call_isE (X := X) C hz hf pins s σ H xs us Q I r ⟨c, cv, b, e, k, q, hQ⟩
def rIsET (K : PySem.W.Frag) (a : Addr) (cls : Value) (d : Option Addr) : List V → Hp → VK → Prop := fun xs H Q => ∃ (Dc tp : Addr) (cl : List V) (us : List Value) (b : Bool), cls = .ref Dc ∧ d = none ∧ ExcC K Dc ∧ xs = [.ref a, .ref tp] ∧ H tp = some (.tup cl) ∧ Paired ClsV cl us ∧ PySem.W.kitAny K (.ref Dc) us = some b ∧ Q (.bl b) H
theorem call_isET {X : Cx} {a : Addr} {cls : Value} {d : Option Addr} {oe : Obj} {pn : List (Addr × Obj)} (hz : Zc cls d oe) (hf : ∃ vs, oe.data = .fields vs) : CallR (X.suite a ((a, oe) :: pn)) (.builtin "isinstance") (rIsET X.K a cls d) := by
  intro pins s σ H xs us Q I r h
  obtain ⟨Dc, tp, cl, ws, b, rfl, rfl, C, rfl, hT, k, e, q⟩ := h
  obtain ⟨u1, u2, rfl, r1, r2⟩ := vals2 r
  cases (show u2 = Value.ref tp from r2)
  cases (show u1 = Value.ref a from r1)
  obtain ⟨_, its, rv, o, h1, h2, n, h3⟩ := (show ObjOk X.prog X.w H s.heap tp (.tup cl) from I.hok tp _ hT)
  have e3 := ClsV.all k rv
  subst e3
  obtain ⟨oc, od, dt, sl⟩ := o
  simp only at h2 h3
  subst h2 h3
  obtain ⟨hget, _⟩ := I.pin (a, oe) (List.mem_append.mpr (.inl List.mem_cons_self))
  obtain ⟨vs, hv⟩ := hf
  have J : PySem.W.InstAt s.heap a oe Dc none := by
    obtain ⟨oc, od, oda, osl⟩ := oe
    obtain ⟨h1, h2⟩ := hz
    dsimp only at h1 h2 hv
    subst h1 h2 hv
    exact ⟨hget, rfl, rfl, trivial⟩
  exact PySem.W.kia_tup (PySem.W.handS_kitx_exc C.hg C.hk C.hs C.hd C.ha C.hn C.ht C.hm) I.kIn J h1 e (fun z => nomatch z) fun tk => ⟨.bl b, H, I.tok tk, rfl, q⟩
theorem ev_isE {cs : List Str} {sub : Str → Str → Bool} {c x : Str} {i : Nat} {a : Addr} (C : Cls K cs sub) (hc : c ∈ cs) (hx : x ∈ cs) (h : env[i]? = some (some (.raw (.ref a)))) :
    EvX K W env (tCB (rIsE2 K a (.ref (He.ga K c)) none) (tCons (tVar i) (tCons (tC (.ref (He.ga K x))) tNil))) (.ok (sub c x)) := fun F0 H0 F H σ Q S k => by
  obtain ⟨v, e, q⟩ := S.slot i _ h
  cases (show v = V.ref a from q)
  exact ⟨_, e, He.ga K c, .ref (He.ga K x), .ref (He.ga K x), sub c x, rfl, rfl, C.exc c hc, rfl, fun u r => r, C.kit c hc x hx, k _ F H (Adv.refl S.ex) rfl⟩
theorem ev_isEV {cs : List Str} {sub : Str → Str → Bool} {c : Str} {i : Nat} {a : Addr} (C : Cls K cs sub) (hc : c ∈ cs) (h : env[i]? = some (some (.raw (.ref a)))) :
    EvX K W env (tCB (rIsE2 K a (.ref (He.ga K c)) none) (tCons (tVar i) (tCons (tC (.ty "ValueError")) tNil))) (.ok true) := fun F0 H0 F H σ Q S k => by
  obtain ⟨v, e, q⟩ := S.slot i _ h
  cases (show v = V.ref a from q)
  exact ⟨_, e, He.ga K c, .ty "ValueError", .type "ValueError", true, rfl, rfl, C.exc c hc, rfl, fun u r => r, C.kiv c hc, k _ F H (Adv.refl S.ex) rfl⟩
theorem kit_any {cs : List Str} {sub : Str → Str → Bool} {c : Str} (C : Cls K cs sub) (hc : c ∈ cs) : ∀ {xs : List Str}, (∀ x ∈ xs, x ∈ cs) → PySem.W.kitAny K (.ref (He.ga K c)) (xs.map fun x => .ref (He.ga K x)) = some (xs.any (sub c))
  | [], _ => rfl
  | x :: xs, h => by
    show (match PySem.W.kitOne K (.ref (He.ga K c)) (.ref (He.ga K x)) with | some true => some true | some false => PySem.W.kitAny K (.ref (He.ga K c)) (xs.map fun x => .ref (He.ga K x)) | none => none) = _
    rw [C.kit c hc x (h x List.mem_cons_self), kit_any C hc fun y hy => h y (List.mem_cons_of_mem _ hy)]
    cases q : sub c x <;> simp [q]
theorem ev_isET2 {cs : List Str} {sub : Str → Str → Bool} {c x y : Str} {i : Nat} {a : Addr} (C : Cls K cs sub) (hc : c ∈ cs) (hx : x ∈ cs) (hy : y ∈ cs) (h : env[i]? = some (some (.raw (.ref a)))) :
    EvX K W env (tCB (rIsET K a (.ref (He.ga K c)) none) (tCons (tVar i) (tCons (tTup (tCons (tC (.ref (He.ga K x))) (tCons (tC (.ref (He.ga K y))) tNil))) tNil))) (.ok (sub c x || sub c y)) := fun F0 H0 F H σ Q S k => by
  obtain ⟨v, e, q⟩ := S.slot i _ h
  cases (show v = V.ref a from q)
  refine ⟨_, e, by show 2 ≤ sizeLine; decide, fun p hp => ?_⟩
  have a2 : Adv F H (upd F p (.tup [.ref (He.ga K x), .ref (He.ga K y)])) (upd H p (.tup [.ref (He.ga K x), .ref (He.ga K y)])) := Adv.new S.ex hp
  refine ⟨He.ga K c, p, [.ref (He.ga K x), .ref (He.ga K y)], [.ref (He.ga K x), .ref (He.ga K y)], sub c x || sub c y, rfl, rfl, C.exc c hc, rfl, upd_same, .cons (.own _) (.cons (.own _) .nil), ?_, k _ _ _ a2 rfl⟩
  have := kit_any C hc (xs := [x, y]) (by simp [hx, hy])
  simpa using this
end

/-! ### a def -/
def enStart (N : List Str) (ds : List D) : En := ds.map (fun x => some (.im x)) ++ List.replicate (N.length - ds.length) none
theorem sl_start {K : PySem.W.Frag} {F H : Hp} {N : List Str} {ds : List D} {vs : List V} (e : Ex F H) (r : Reps K F ds vs) : Sl K F H F H (L2.start N vs) (enStart N ds) := by
  have hl := r.length
  refine ⟨Adv.refl e, fun i sk q => ?_, fun i j xs ys p _ q _ oo _ _ => ?_, by simp [L2.start, enStart, hl]⟩
  · unfold enStart at q
    by_cases c : i < ds.length
    · rw [List.getElem?_append_left (by simpa using c), List.getElem?_map, List.getElem?_eq_getElem c] at q
      cases q
      obtain ⟨v, h1, h2⟩ := r.get (List.getElem?_eq_getElem c)
      refine ⟨v, ?_, h2⟩
      unfold L2.start
      rw [List.getElem?_append_left (by rw [List.length_map]; omega), List.getElem?_map, h1]; rfl
    · rw [List.getElem?_append_right (by simpa using c), List.getElem?_replicate] at q
      split at q <;> cases q
  · unfold enStart at q
    by_cases c : i < ds.length
    · rw [List.getElem?_append_left (by simpa using c), List.getElem?_map, List.getElem?_eq_getElem c] at q
      cases q; cases oo
    · rw [List.getElem?_append_right (by simpa using c), List.getElem?_replicate] at q
      split at q <;> cases q
section
variable {P : Program} {w : World} {K : PySem.W.Frag} {mg : Str → Option Value} {base : Heap} {x qual : Str} {params : Arguments} {body : List Stmt} {scope : Scope} {dvs : List V} {kws : List (Str × V)} {f : Addr} {fd : FuncData}
theorem fn_ok {N ps : List Str} {k : Nat} {β τ : Type} [ToDs β] [ToD τ] {fM : β → Res τ} (F : FunD K x qual params body scope dvs kws f fd) (S : FnScope N ps scope) (hl : ∀ y : β, (ToDs.ds y).length = ps.length)
    (hbody : ∀ (cdv : Value) (A : Around) (outer : List Env) (s : Shared) (H : Hp) (E : XK), Room k (A.deeper (PyProof.Rows.envOfC qual scope s.heap.objs.size f cdv)) →
      ∃ t, PSs (cxOf (L2.CX P w) P w K mg base N qual scope f cdv A outer s H E) body t ∧
        ∀ (y : β) (F0 H0 : Hp) (Q : VK) (KP : Res τ → Prop), Lk K (fun cls d _ H => E cls d H) F0 H0 Q (fun _ => True) KP → Blk K F0 H0 KP (t { nx := fun _ H' => Q .non H', rt := Q }) (enStart N (ToDs.ds y)) (fM y)) :
    FnOk P w K mg base (L2.CX P w) (k + 1) f fd ps (spM K fM) := by
  refine F.ok S (fun vs H Q E h => ?_) (fun cdv A outer s H vs Q E hr h => ?_)
  · obtain ⟨F, y, _, r, _⟩ := h
    rw [← r.length]; exact hl y
  · obtain ⟨t, h1, h2⟩ := hbody cdv A outer s H E hr
    refine ⟨t, h1, ?_⟩
    obtain ⟨F, y, e, r, q⟩ := h
    refine h2 y F H Q (fun r => KE K (fun cls d _ H => E cls d H) F H [] Q r) ⟨fun z h v F' H' a r => h v F' H' a r, fun c F' H' σ env h _ S' => h F' H' S'.adv, fun z => z⟩ F H _ (sl_start e r) q
end
end Mi
set_option maxHeartbeats 1000000
namespace Mi
open PySem PySem.Spec L2
open Evl (Ex)
abbrev W0 (E : XK) : WX := fun cls d _ H => E cls d H
theorem need_mild {α : Type} {p : Prop} {x : α} {c : Str} (h : Res.need p (.ok x) = .exc c) : False := by
  by_cases q : p
  · rw [Res.need_pos q] at h; cases h
  · rw [Res.need_neg q] at h; cases h
/-! what a value of any kind is taken for -/
def D.asInt : D → Res Int
  | .int i => .ok i
  | _ => .stuck
def D.asBool : D → Res Bool
  | .bl i => .ok i
  | _ => .stuck
def D.asStr : D → Res Str
  | .str i => .ok i
  | _ => .stuck
def D.asList : D → Res (List D)
  | .lst i => .ok i
  | _ => .stuck
def D.asTu : D → Res (Tu D)
  | .tup i => .ok ⟨i⟩
  | _ => .stuck
def intsOf : List D → Res (List Int)
  | [] => .ok []
  | .int i :: r => (intsOf r).bind fun s => .ok (i :: s)
  | _ :: _ => .stuck
def D.asInts : D → Res (List Int)
  | .lst i => intsOf i
  | _ => .stuck
theorem asInt_ok : ∀ (x : D) (y : Int), x.asInt = .ok y → toD y = x
  | .int i, y, h => by cases h; rfl
theorem asInt_x (x : D) (c : Str) : x.asInt ≠ .exc c := by cases x <;> intro h <;> cases h
theorem asBool_ok : ∀ (x : D) (y : Bool), x.asBool = .ok y → toD y = x
  | .bl i, y, h => by cases h; rfl
theorem asBool_x (x : D) (c : Str) : x.asBool ≠ .exc c := by cases x <;> intro h <;> cases h
theorem asStr_ok : ∀ (x : D) (y : Str), x.asStr = .ok y → toD y = x
  | .str i, y, h => by cases h; rfl
theorem asStr_x (x : D) (c : Str) : x.asStr ≠ .exc c := by cases x <;> intro h <;> cases h
theorem asList_ok : ∀ (x : D) (y : List D), x.asList = .ok y → toD y = x
  | .lst i, y, h => by cases h; show D.lst (i.map fun x => x) = _; rw [List.map_id']
theorem asList_x (x : D) (c : Str) : x.asList ≠ .exc c := by cases x <;> intro h <;> cases h
theorem asTu_ok : ∀ (x : D) (y : Tu D), x.asTu = .ok y → toD y = x
  | .tup i, y, h => by cases h; show D.tup (i.map fun x => x) = _; rw [List.map_id']
theorem asTu_x (x : D) (c : Str) : x.asTu ≠ .exc c := by cases x <;> intro h <;> cases h
theorem intsOf_ok : ∀ (x : List D) (y : List Int), intsOf x = .ok y → y.map D.int = x
  | [], y, h => by cases h; rfl
  | .int i :: r, y, h => by
    have h : (intsOf r).bind (fun s => .ok (i :: s)) = .ok y := h
    cases e : intsOf r with
    | ok z => rw [e] at h; cases h; rw [List.map_cons, intsOf_ok r z e]
    | exc c => rw [e] at h; cases h
    | stuck => rw [e] at h; cases h
theorem intsOf_x : ∀ (x : List D) (c : Str), intsOf x ≠ .exc c
  | [], c, h => by cases h
  | .int i :: r, c, h => by
    have h : (intsOf r).bind (fun s => .ok (i :: s)) = .exc c := h
    cases e : intsOf r with
    | ok z => rw [e] at h; cases h
    | exc c => exact intsOf_x r c e
    | stuck => rw [e] at h; cases h
  | .non :: _, c, h => by cases h
  | .bl _ :: _, c, h => by cases h
  | .str _ :: _, c, h => by cases h
  | .ty _ :: _, c, h => by cases h
  | .tup _ :: _, c, h => by cases h
  | .lst _ :: _, c, h => by cases h
  | .obj _ _ _ :: _, c, h => by cases h
  | .ro _ :: _, c, h => by cases h
theorem asInts_ok : ∀ (x : D) (y : List Int), x.asInts = .ok y → toD y = x
  | .lst i, y, h => congrArg D.lst (intsOf_ok i y h)
theorem asInts_x : ∀ (x : D) (c : Str), x.asInts ≠ .exc c
  | .lst i, c, h => intsOf_x i c h
  | .non, c, h => by cases h
  | .bl _, c, h => by cases h
  | .int _, c, h => by cases h
  | .str _, c, h => by cases h
  | .ty _, c, h => by cases h
  | .tup _, c, h => by cases h
  | .obj _ _ _, c, h => by cases h
  | .ro _, c, h => by cases h
theorem intsOf_map : ∀ (y : List Int), intsOf (y.map D.int) = .ok y
  | [] => rfl
  | i :: r => by show (intsOf (r.map D.int)).bind _ = _; rw [intsOf_map r]; rfl
theorem asInts_toD (y : List Int) : (toD y).asInts = .ok y := intsOf_map y
/-- xs[lo:hi] -/
def cutL {α : Type} (xs : List α) (lo hi : Option Int) : List α := (xs.drop (HT.sIx xs.length 0 lo)).take (HT.sIx xs.length xs.length hi - HT.sIx xs.length 0 lo)
section
variable {K : PySem.W.Frag} {W : WX} {F0 H0 F H F' H' F1 : Hp} {rt : VK} {PT : En → Prop} {env env' : En} {α β γ τ : Type} [ToD α] [ToD β] [ToD γ] [ToD τ] {KP : Res τ → Prop} {te ta tb tc : TE} {tt : TT} {Z : Ends} {t u : TS} {T : L2.St → Hp → Prop} {σ : L2.St}
theorem ev_bits {m : Res Int} (h : EvX K W env te m) : EvX K W env (tBits te) (m.bind fun i => .ok ((Builtin.Int.intBits i : Nat) : Int)) := fun F0 H0 F H σ Q S k => by
  refine h F0 H0 F H σ _ S (KE.cut S.ex k fun x v F1 H1 e1 a1 r1 k1 => ?_)
  exact ⟨x, r1, k1 _ F1 H1 (Adv.refl a1.in_) rfl⟩
theorem ev_cast {m : Res D} {f : D → Res α} (hf : ∀ x y, f x = .ok y → toD y = x) (hx : ∀ x c, f x ≠ .exc c) (h : EvX K W env te m) : EvX K W env te (m.bind f) := fun F0 H0 F H σ Q S k => by
  refine h F0 H0 F H σ _ S ?_
  cases m with
  | ok x =>
    intro v F1 H1 a r
    have k : KE K W F H σ Q (f x) := k
    cases e : f x with
    | ok y => rw [e] at k; exact k v F1 H1 a (by rw [hf x y e]; exact r)
    | exc c => exact absurd e (hx x c)
    | stuck => rw [e] at k; exact k.elim
  | exc c => exact k
  | stuck => exact k.elim
theorem blk_fin {Q : VK} {x : τ} (L : Lk K W F0 H0 Q PT KP) (hx : toD x = .non) : Blk K F0 H0 KP (fun _ H' => Q .non H') env (.ok x) := fun F H σ S h => L.ok x h .non F H S.adv (by rw [hx]; rfl)
/-- what follows first, then the statement -/
theorem blk_with {m1 m : Res τ} {env1 : En} (h1 : Blk K F0 H0 KP Z.nx env1 m1) (h2 : Blk K F0 H0 KP Z.nx env1 m1 → Blk K F0 H0 KP (t Z) env m) : Blk K F0 H0 KP (t Z) env m := h2 h1
theorem blk_if2 {m : Res Bool} {a b : Res τ} (L : Lk K W F0 H0 rt PT KP) (hT : PT env) (hc : EvT K W env tt m) (h1 : Blk K F0 H0 KP (t Z) env a) (h2 : Blk K F0 H0 KP (u Z) env b) :
    Blk K F0 H0 KP (tIfS tt t u Z) env (m.bind fun c => cond c a b) := blk_if L hT hc h1 h2
theorem blk_ifj {S : Type} (envS : S → En) (k : S → Res τ) {m : Res Bool} {a b : Res τ} (L : Lk K W F0 H0 rt PT KP) (hT : PT env) (hc : EvT K W env tt m) (hr : ∀ s, Blk K F0 H0 KP Z.nx (envS s) (k s))
    (h1 : (∀ s, Blk K F0 H0 KP Z.nx (envS s) (k s)) → Blk K F0 H0 KP (t Z) env a) (h2 : (∀ s, Blk K F0 H0 KP Z.nx (envS s) (k s)) → Blk K F0 H0 KP (u Z) env b) :
    Blk K F0 H0 KP (tIfS tt t u Z) env (m.bind fun c => cond c a b) := blk_if L hT hc (h1 hr) (h2 hr)
end
/-- try: .. except X as n: .. -/
def tTry (K : PySem.W.Frag) (c : Value) (i : Nat) (ts : Addr → Value → Option Addr → TS) (W : WX) (tb : WX → TS) : TS := fun D σ H => tb (wAs K c i ts W D) D σ H
section
variable {X : Cx} {x n : Str} {i : Nat} {c : Value} {body suite : List Stmt} {b₀ : Stmt} {np pos pos' : Pos} {tb : WX → TS} {ts : Addr → Value → Option Addr → TS} {Wout : WX}
theorem ps_tryW (hs : X.stack = X.env :: X.outer) (hf : X.env.frame = some X.env.locals) (hN : X.N.Nodup) (hi : X.N[i]? = some n) (hln : X.env.kindOf n = some .local) (hc : Names X x c) (tk : Takes X Wout)
    (hb : ∀ (W : WX) (pn : List (Addr × Obj)) (xe : Value → Shared → Prop), Takes (X.tr pn xe) W → PassesOwn (model X.prog X.w) X.A X.env xe → PSs (X.tr pn xe) body (tb W))
    (hsu : ∀ (a : Addr) (oe : Obj) (cls : Value) (d : Option Addr) (pn : List (Addr × Obj)), Zc cls d oe → (∃ vs, oe.data = .fields vs) → PSs (X.suite a ((a, oe) :: pn)) (b₀ :: suite) (ts a cls d)) :
    PS X (.Try body [.ExceptHandler (some (.Name x np)) (some n) (b₀ :: suite) pos'] [] [] pos) (tTry X.K c i ts Wout tb) := ps_try_as hs hf hN hi hln hc tk hb hsu
end
section
variable {K : PySem.W.Frag} {W : WX} {F0 H0 F H F' H' F1 : Hp} {rt : VK} {PT : En → Prop} {env env' : En} {τ : Type} [ToD τ] {KP : Res τ → Prop} {Z : Ends}
theorem blk_tryW {S : Type} {cs : List Str} {sub : Str → Str → Bool} {x : Str} {i : Nat} {tb : WX → TS} {ts : Addr → Value → Option Addr → TS} {envS : S → En} {m : Res (Fall S τ)} {rest : S → Res τ} {hd : Str → Res τ}
    (L : Lk K W F0 H0 rt PT KP) (hT : PT env) (C : Cls K cs sub) (hx : x ∈ cs)
    (hb : ∀ (W' : WX) (KP' : Res (Fall S τ) → Prop), Lk K W' F0 H0 rt (fun e => EnLe e env) KP' → (∀ s, Blk K F0 H0 KP' Z.nx (envS s) (.ok (.go s))) → Blk K F0 H0 KP' (tb W' Z) env m)
    (hs : ∀ (c : Str) (a : Addr) (nx bk ct : L2.St → Hp → Prop), c ∈ cs → sub c x = true → (∀ env' m', Blk K F0 H0 KP Z.nx (env'.set i none) m' → Blk K F0 H0 KP nx env' m') →
      Blk K F0 H0 KP (ts a (.ref (He.ga K c)) none { nx := nx, rt := rt, bk := bk, ct := ct }) (env.set i (some (.raw (.ref a)))) (hd c))
    (hr : ∀ s, Blk K F0 H0 KP Z.nx (envS s) (rest s)) (hZ : Z.rt = rt := by rfl) :
    Blk K F0 H0 KP (tTry K (.ref (He.ga K x)) i ts W tb Z) env (tryR (fun c => decide (c ∈ cs)) (fun c => sub c x) m rest hd) := blk_tryAs L hT C hx hb hs hr hZ
end
section
variable {X : Cx}
theorem ip_of {op : Operator} {r : R2} (h : OpR X (inplaceOp op) r) : PIp X op r := by
  intro pins s σ H x y v u Q I rx ry q
  exact h pins s σ H x y v u Q I rx ry q
theorem iop_mulX : OpR X (inplaceOp .Mult) (rI CMulX fun i j => .int (i * j)) := opI fun _ _ _ _ _ _ _ hc q => PyProof.Rows.imul_int q hc.ok
end

/-! ### the errors' facts, by one Bool -/
def eqOV (a : Option (Option Value)) (b : Value) : Bool := decide (a = some (some b))
def excCB (K : PySem.W.Frag) (C : Addr) : Bool :=
  He.eqO (PySem.W.findIn K (.ref C) "__getattribute__") (some (some (.builtin "BaseException.__getattribute__"))) && (He.eqO (PySem.W.findIn K (.ref C) "__getattr__") (some none) && (decide (PySem.W.subIn K (.ref C) (.type "BaseException") = some true) && (PySem.W.hasDictIn K C &&
    (He.eqO (PySem.W.findIn K (.ref C) "__class__") (some (some (.builtin "object.__class__"))) && (He.eqO (PySem.W.specialIn K (.builtin "object.__class__") "__get__") (some (some (.builtin "getset_descriptor.__get__"))) &&
      (decide (PySem.W.takesIn K (.builtin "object.__class__") = some true) && decide (PySem.W.mroIn K C (.type "object") = some true)))))))
theorem excC_of {K : PySem.W.Frag} {C : Addr} (h : excCB K C = true) : ExcC K C := by
  obtain ⟨h1, h⟩ := He.ba h
  obtain ⟨h2, h⟩ := He.ba h
  obtain ⟨h3, h⟩ := He.ba h
  obtain ⟨h4, h⟩ := He.ba h
  obtain ⟨h5, h⟩ := He.ba h
  obtain ⟨h6, h⟩ := He.ba h
  obtain ⟨h7, h8⟩ := He.ba h
  exact ⟨He.eqO_ok h1, He.eqO_ok h2, of_decide_eq_true h3, h4, He.eqO_ok h5, He.eqO_ok h6, of_decide_eq_true h7, of_decide_eq_true h8⟩
def clsB (K : PySem.W.Frag) (cs : List Str) (sub : Str → Str → Bool) : Bool := cs.all fun c => excCB K (He.ga K c) && ((cs.all fun d => decide (PySem.W.kitOne K (.ref (He.ga K c)) (.ref (He.ga K d)) = some (sub c d)) && decide (PySem.W.exmOne K (.ref (He.ga K c)) (.ref (He.ga K d)) = some (sub c d))) &&
  decide (PySem.W.kitOne K (.ref (He.ga K c)) (.type "ValueError") = some true))
theorem cls_of {K : PySem.W.Frag} {cs : List Str} {sub : Str → Str → Bool} (h : clsB K cs sub = true) : Cls K cs sub := by
  have h1 : ∀ c ∈ cs, _ := fun c hc => He.ba (List.all_eq_true.mp h c hc)
  refine ⟨fun c hc => excC_of (h1 c hc).1, fun c hc d hd => ?_, fun c hc d hd => ?_, fun c hc => ?_⟩
  · exact of_decide_eq_true (He.ba (List.all_eq_true.mp (He.ba (h1 c hc).2).1 d hd)).2
  · exact of_decide_eq_true (He.ba (List.all_eq_true.mp (He.ba (h1 c hc).2).1 d hd)).1
  · exact of_decide_eq_true (He.ba (h1 c hc).2).2
end Mi
set_option maxHeartbeats 1000000
namespace Mi
open PySem PySem.Spec L2
open Evl (Ex)
theorem walk_end {l : PySem.W.OpenLaw} {n k : Nat} {q : Program} {loose : List Str} {XP : (Str → Option Value) → Heap → Prop} {YP : World → Heap → Prop} {d : PySem.DefRec} {x : Str} {m : Ro Int → Res Bool}
    (hn : l.most = some n) (hn2 : n ≤ sizeLine) (hdf : d.params.defaults = []) (hr : Room k PySem.callerA)
    (F : ∀ (w : World) (mg : Str → Option Value) (fa : Addr) (h : Heap), YP w h → h.Ns mainGlobals mg → mg d.name = some (.ref fa) →
      ∃ (K : PySem.W.Frag) (fd : FuncData), K.In h ∧ (∀ (s : Shared) (u : Value), PySem.BindsTo s fd ⟨[u], []⟩ [(x, u)]) ∧
        ∀ base : Heap, K.In base → base.Ns mainGlobals mg → FnOk l.prog w K mg base (L2.CX l.prog w) k fa fd [x] (spM K (fun (p : Ro Int × Unit) => m p.1)))
    (ht : ∀ ns : List Int, ns.length ≤ n → (∀ i ∈ ns, Builtin.Int.intBits i ≤ 1048576) → m ⟨ns⟩ = .ok true) :
    PySem.W.WalkO q loose XP YP l.row.toRowW d [] (fun f vs => PySem.call f vs) := by
  refine Att.attach_callB hn hdf fun w s₀ s₁ mg mb fa o pm cd doc a vs ns G Y ho hd hcd hmg hobj hints hlen hbits hg => ?_
  obtain ⟨K, fd, KX, hb, hF⟩ := F w mg fa _ Y G.T.g hmg
  refine law_call KX G.T.g G.T.b G.T.builtins G.T.nolimit hg hobj hints (Nat.le_trans hlen hn2) hr hF hb (fun H hO hS => ?_) fun H e s' z => ?_
  · refine ⟨H, (⟨ns⟩, ()), Ex.refl H, ⟨.ref a, [], rfl, ⟨a, ns.map V.int, rfl, hS, Reps.of_ints ns⟩, rfl⟩, ?_⟩
    show KE K _ H H [] _ (m ⟨ns⟩)
    rw [ht ns hlen hbits]
    exact fun v F' H' _ r => r
  · obtain ⟨_, _, _, _, _, _, _, _, _, _, _, _, z⟩ := z
    exact z
end Mi
set_option maxHeartbeats 1000000
namespace Mi
open PySem PySem.Spec L2
open Evl (Ex)
abbrev rLenS (K : PySem.W.Frag) : List V → Hp → VK → Prop := fun xs H Q => ∃ p ys, xs = [.ref p] ∧ (SqL K H p ys ∨ SqT K H p ys) ∧ Q (.int ys.length) H
theorem cr_len {X : Cx} {K : PySem.W.Frag} (h : X.K = K) : CallR X (.builtin "len") (rLenS K) := by
  subst h; exact call_len_seq
theorem cr_ixL {X : Cx} {K : PySem.W.Frag} (h : X.K = K) : IxR X (rIxL K) := by
  subst h; exact ix_list
theorem cr_ixT {X : Cx} {K : PySem.W.Frag} (h : X.K = K) : IxR X (rIxT K) := by
  subst h; exact ix_tup
theorem cr_slL {X : Cx} {K : PySem.W.Frag} (h : X.K = K) : SlR X (rSlL K) := by
  subst h; exact sl_list
section
variable {K : PySem.W.Frag} {W : WX} {F0 H0 F H F' H' F1 : Hp} {rt : VK} {PT : En → Prop} {env env' : En} {α β γ τ : Type} [ToD α] [ToD β] [ToD γ] [ToD τ] {KP : Res τ → Prop} {te ta tb tc : TE} {tt : TT} {Z : Ends} {t u : TS} {T : L2.St → Hp → Prop} {σ : L2.St}
/-- xs[::-1] -/
theorem en_rev {m : Res (List α)} (h : EvX K W env te m) : EvN K W env (tRevL K te) (m.bind fun xs => .ok xs.reverse) := fun F0 H0 F H σ Q S k => by
  refine h F0 H0 F H σ _ S ?_
  cases m with
  | ok xs =>
    intro v F1 H1 a r
    obtain ⟨p, vs, rfl, h1, h2⟩ := r
    refine ⟨p, vs, rfl, sq_ex a.in_ h1, fun l hl => ?_⟩
    refine k l _ F1 _ (a.trans (Adv.newO a.in_ hl)) (Evl.fresh_back a.h hl) (none_of_ex a.in_ hl) upd_same ?_
    rw [List.map_reverse]
    exact Reps.reverse h2
  | exc c => exact k
  | stuck => exact k.elim
/-- the parts of a text of an error -/
def EvJ (K : PySem.W.Frag) (W : WX) (env : En) (ts : List TE) (N : Nat) (m : Res Unit) : Prop :=
  ∀ F0 H0 F H σ acc (Q : Str → Hp → Prop), Sl K F0 H0 F H σ env → acc.length + N ≤ sizeLine → KE K W F H σ (fun _ H' => ∀ out, Q out H') m → tJs ts acc σ H Q
theorem ej_nil : EvJ K W env [] 0 (.ok ()) := fun F0 H0 F H σ acc Q S hn k => k .non F H (Adv.refl S.ex) rfl acc
theorem ej_txt {x : Str} {n N : Nat} {ts : List TE} {m : Res Unit} (hx : x.length ≤ n) (h : EvJ K W env ts N m) : EvJ K W env (tC (.str x) :: ts) (n + N) m := fun F0 H0 F H σ acc Q S hn k => by
  have e : (acc ++ x).length = acc.length + x.length := Str.length_append ..
  exact ⟨x, rfl, by omega, h F0 H0 F H σ (acc ++ x) Q S (by omega) k⟩
theorem ej_int {te : TE} {N : Nat} {ts : List TE} {m1 : Res Int} {m : Res Unit} (h1 : EvX K W env te m1) (h : EvJ K W env ts N m) : EvJ K W env (tFmt te :: ts) (1000 + N) (m1.bind fun i => .need (i.natAbs.log2 < 1920 ∧ (toString i : Str).length ≤ 1000) m) := fun F0 H0 F H σ acc Q S hn k => by
  refine h1 F0 H0 F H σ _ S (k.cut S.ex fun i v F1 H1 e1 a1 r1 k1 => ?_)
  have r1 : v = V.int i := r1
  subst r1
  by_cases q : i.natAbs.log2 < 1920 ∧ (toString i : Str).length ≤ 1000
  · rw [Res.need_pos q] at k1
    have e : (acc ++ toString i).length = acc.length + (toString i : Str).length := Str.length_append ..
    exact .inr ⟨i, rfl, q.1, toString i, rfl, by omega, h F0 H0 F1 H1 σ _ Q (S.step a1) (by omega) k1⟩
  · rw [Res.need_neg q] at k1; exact k1.elim
theorem blk_raiseJ {c : Str} {m : Res Unit} {ts : List TE} {N : Nat} (L : Lk K W F0 H0 rt PT KP) (hT : PT env) (hN : N ≤ sizeLine) (he : EvJ K W env ts N m) : Blk K F0 H0 KP (fun σ H => tJs ts Str.empty σ H fun _ H1 => W (.ref (He.ga K c)) none σ H1) env (m.bind fun _ => .exc c) := fun F H σ S h => by
  refine he F0 H0 F H σ _ _ S (by show 0 + N ≤ _; omega) (L.ke hT S h fun x v F1 H1 e1 a1 r1 h1 => ?_)
  exact fun _ => L.exc c F1 H1 σ env h1 hT (S.step a1)
end
end Mi
set_option maxHeartbeats 1000000
namespace Mi
open PySem PySem.Spec L2
open Evl (Ex)

/-! ### own classes: rules with what is raised at the caller's slots -/
section
variable {X : Cx} {CX : CXT} {k : Nat} {f C : Addr} {fd : FuncData} {ps : List Str} {sp : Sp} {E : L2.St → XK} {x m : Str} {p pos apos : Pos} {e o : Expr} {es : List Expr} {ta : TE} {t : TA}
def tMethQ (C : Addr) (m : Str) (sp : Sp) (E : L2.St → XK) (ta : TE) (t : TA) : TE := fun σ H Q => ta σ H fun x H1 => ∃ a dx fs, x = .ref a ∧ H1 a = some (.ins C dx fs) ∧ fs.lookup m = none ∧ t σ H1 fun vs H2 => sp (x :: vs) H2 Q (E σ)
theorem pe_methQ {pl : Sem Bool} (he : PE X o ta) (c : L2.Cls X.K C) (hm : Meth X.K C m f) (F : FnOk X.prog X.w X.K X.mg X.base CX k f fd ps sp) (hr : Room k X.A) (hb : Binds X.K fd ps []) (hx : ∀ σ, PassesAt CX X σ (E σ)) (ha : PA X (e :: es) t)
    (hst : starEach (e :: es) X.env = (false, eval e X.env) :: starEach es X.env := by rfl) (hpl : (backTo pos (starEach es X.env)).any (·.1) = false := by rfl)
    (ht : eval (.Call (.Attribute o m apos) (e :: es) [] pos) X.env = (do
      let ov ← eval o X.env
      standAt apos.atName
      let (f, first) ← holding [ov] (getMethod ov m pl)
      callWith pos f first (backTo pos (starEach (e :: es) X.env)) (backToKw pos (keywordEach [] X.env))) := by rfl) :
    PE X (.Call (.Attribute o m apos) (e :: es) [] pos) (tMethQ C m sp E ta t) := by
  refine ⟨fun pins s σ H Q I h => ?_⟩
  refine PySem.W.methodCall_KW (pl := pl) (thn (he.run pins s σ H _ I h) fun u s1 ⟨x, H1, I1, rx, a, dx, fs, ex, ea, l, q⟩ => ?_) ht
  subst ex
  obtain rfl : u = Value.ref a := rx
  refine getmeth_ok I1 ea c hm l ?_
  refine PySem.W.callWith_K (first := [.ref a]) (h₀ := X.base) I.ok.mod.kin hm.kp (thn (ha.run pos pins s1 σ H1 _ I1 q) fun us s2 ⟨vs, H2, I2, r, q2⟩ => ⟨I2.kIn, ?_⟩) hst hpl
  exact run_fnS (us := .ref a :: us) (vs := .ref a :: vs) F hr hb (hx σ) I2 (.cons rfl r) q2
theorem pe_methQ0 {pl : Sem Bool} (he : PE X o ta) (c : L2.Cls X.K C) (hm : Meth X.K C m f) (F : FnOk X.prog X.w X.K X.mg X.base CX k f fd ps sp) (hr : Room k X.A) (hb : Binds X.K fd ps []) (hx : ∀ σ, PassesAt CX X σ (E σ))
    (ht : eval (.Call (.Attribute o m apos) [] [] pos) X.env = (do
      let ov ← eval o X.env
      standAt apos.atName
      let (f, first) ← holding [ov] (getMethod ov m pl)
      callWith pos f first (backTo pos (starEach [] X.env)) (backToKw pos (keywordEach [] X.env))) := by rfl) :
    PE X (.Call (.Attribute o m apos) [] [] pos) (tMethQ C m sp E ta tNil) := by
  refine ⟨fun pins s σ H Q I h => ?_⟩
  refine PySem.W.methodCall_KW (pl := pl) (thn (he.run pins s σ H _ I h) fun u s1 ⟨x, H1, I1, rx, a, dx, fs, ex, ea, l, q⟩ => ?_) ht
  subst ex
  obtain rfl : u = Value.ref a := rx
  refine getmeth_ok I1 ea c hm l ?_
  exact PySem.W.callWith_K0 (first := [.ref a]) I1.kIn hm.kp (run_fnS (us := [.ref a]) (vs := [.ref a]) F hr hb (hx σ) I1 (.cons rfl .nil) q)
def tMakeQ (C : Addr) (sp : Sp) (E : L2.St → XK) (t : TA) : TE := fun σ H Q => t σ H fun vs H1 => ∀ x dx, H1 x = none → H1 dx = none → dx ≠ x → sp (.ref x :: vs) (upd (upd H1 dx (.own x)) x (.ins C dx [])) (fun v H2 => v = .non ∧ Q (.ref x) H2) (E σ)
theorem run_makeQ {pins : List (Addr × Obj)} {σ : L2.St} {H : Hp} {s : Shared} {Q : VK} {us : List Value} {vs : List V} (M : Mk X.K C f) (F : FnOk X.prog X.w X.K X.mg X.base CX k f fd ps sp) (hr : Room (k + 1) X.A) (hb : Binds X.K fd ps [])
    (hx : PassesAt CX X σ (E σ)) (I : Inv X pins σ H s) (r : Vals vs us)
    (h : ∀ x dx, H x = none → H dx = none → dx ≠ x → sp (.ref x :: vs) (upd (upd H dx (.own x)) x (.ins C dx [])) (fun v H2 => v = .non ∧ Q (.ref x) H2) (E σ)) :
    wpAny (model X.prog X.w) X.A (call (.ref C) us) (EP X pins σ Q) X.xe s := by
  have hq := h (s.heap.objs.size + 1) s.heap.objs.size (I.hok.fresh (Nat.le_succ _)) (I.hok.fresh (Nat.le_refl _)) (Nat.ne_of_lt (Nat.lt_succ_self _))
  have I2 := Inv.made (C := C) I
  have r2 : Vals (V.ref (s.heap.objs.size + 1) :: vs) (Value.ref (s.heap.objs.size + 1) :: us) := .cons rfl r
  have hl : (Value.ref (s.heap.objs.size + 1) :: us ++ []).length = ps.length := by
    rw [List.append_nil]
    have e := r2.length
    rw [F.len _ _ _ _ hq] at e
    exact e.symm
  have b := hb _ (Value.ref (s.heap.objs.size + 1) :: us) I2.kIn hl
  rw [List.append_nil] at b
  refine wpAny_call (make_map (f := f) I.kIn M.makes M.init (beq_iff_eq.mp M.fn) (codeAny_mono (F.run _ X.stack _ _ ⟨Value.ref (s.heap.objs.size + 1) :: us, []⟩ (Value.ref (s.heap.objs.size + 1) :: us) _ _ (E σ) (hr.make C us [])
    (I2.env0.make C us []) b r2 hq) fun r s' hq' => ?_))
  cases r with
  | error e => exact hx pins _ _ e s' I2 hq'
  | ok fl =>
    cases fl with
    | ret u =>
      obtain ⟨v, H', I3, rv, ev, q3⟩ := I2.after hq'
      subst ev
      exact ⟨rv, ⟨V.ref (s.heap.objs.size + 1), H', I3, rfl, q3⟩⟩
    | next => exact False.elim hq'
    | brk => exact False.elim hq'
    | cont => exact False.elim hq'
theorem pe_makeQ (M : Mk X.K C f) (F : FnOk X.prog X.w X.K X.mg X.base CX k f fd ps sp) (hr : Room (k + 1) X.A) (hg : Gl X x) (hm : X.mg x = some (.ref C)) (hb : Binds X.K fd ps []) (hx : ∀ σ, PassesAt CX X σ (E σ))
    (ha : PA X (e :: es) t) (hdb : (x == ("__debug__" : Str)) = false := by decide) (he : starEach (e :: es) X.env = (false, eval e X.env) :: starEach es X.env := by rfl) (hpl : (backTo pos (starEach es X.env)).any (·.1) = false := by rfl) :
    PE X (.Call (.Name x p) (e :: es) [] pos) (tMakeQ C sp E t) := by
  refine ⟨fun pins s σ H Q I h => ?_⟩
  refine wpAny_Call_Name_kw (ld_glob I hg hm ?_ hdb)
  refine PySem.W.callWith_K (h₀ := X.base) I.ok.mod.kin M.kp (thn (ha.run pos pins s σ H _ I h) fun us s1 ⟨vs, H1, I1, r, q⟩ => ⟨I1.kIn, ?_⟩) he hpl
  exact run_makeQ M F hr hb (hx σ) I1 r q
theorem pe_makeQ0 (M : Mk X.K C f) (F : FnOk X.prog X.w X.K X.mg X.base CX k f fd ps sp) (hr : Room (k + 1) X.A) (hg : Gl X x) (hm : X.mg x = some (.ref C)) (hb : Binds X.K fd ps []) (hx : ∀ σ, PassesAt CX X σ (E σ))
    (hdb : (x == ("__debug__" : Str)) = false := by decide) : PE X (.Call (.Name x p) [] [] pos) (tMakeQ C sp E tNil) := by
  refine ⟨fun pins s σ H Q I h => ?_⟩
  refine wpAny_Call_Name_kw (ld_glob I hg hm ?_ hdb)
  exact PySem.W.callWith_K0 I.kIn M.kp (run_makeQ (us := []) M F hr hb (hx σ) I .nil h)
end

/-! ### fields by their place -/
def posK (f : Str) : List Str → Option Nat
  | [] => none
  | g :: r => if g = f then some 0 else (posK f r).map (· + 1)
theorem lookup_pos {f : Str} {v : V} : ∀ {ks : List Str} {vs : List V} {j : Nat}, posK f ks = some j → vs[j]? = some v → (ks.zip vs).lookup f = some v
  | [], _, _, h, _ => by cases h
  | g :: r, [], j, h, q => by simp at q
  | g :: r, w :: ws, j, h, q => by
    unfold posK at h
    by_cases c : g = f
    · rw [if_pos c] at h; cases h
      simp at q; subst q c
      simp [List.zip_cons_cons, List.lookup]
    · rw [if_neg c] at h
      have c2 : (f == g) = false := beq_eq_false_iff_ne.mpr fun z => c z.symm
      cases e : posK f r with
      | none => rw [e] at h; cases h
      | some i =>
        rw [e] at h; cases h
        simp only [List.zip_cons_cons, List.lookup, c2]
        exact lookup_pos e (by simpa using q)
theorem lookup_no {f : Str} : ∀ {ks : List Str} {vs : List V}, posK f ks = none → (ks.zip vs).lookup f = none
  | [], _, _ => rfl
  | g :: r, [], _ => rfl
  | g :: r, w :: ws, h => by
    unfold posK at h
    by_cases c : g = f
    · rw [if_pos c] at h; cases h
    · rw [if_neg c] at h
      have c2 : (f == g) = false := beq_eq_false_iff_ne.mpr fun z => c z.symm
      simp only [List.zip_cons_cons, List.lookup, c2]
      refine lookup_no ?_
      cases e : posK f r with
      | none => rfl
      | some i => rw [e] at h; cases h
theorem putF_new {f : Str} {v : V} : ∀ {ks : List Str} {vs : List V}, posK f ks = none → ks.length = vs.length → putF f v (ks.zip vs) = (ks ++ [f]).zip (vs ++ [v])
  | [], [], _, _ => rfl
  | [], _ :: _, _, h => by simp at h
  | g :: r, [], _, h => by simp at h
  | g :: r, w :: ws, h, hl => by
    unfold posK at h
    by_cases c : g = f
    · rw [if_pos c] at h; cases h
    · rw [if_neg c] at h
      show (if g = f then _ else (g, w) :: putF f v (r.zip ws)) = _
      rw [if_neg c]
      rw [putF_new (ks := r) (vs := ws) (by cases e : posK f r with | none => rfl | some i => rw [e] at h; cases h) (by simpa using hl)]
      rfl
theorem putF_old {f : Str} {v : V} : ∀ {ks : List Str} {vs : List V} {j : Nat}, posK f ks = some j → ks.length = vs.length → putF f v (ks.zip vs) = ks.zip (vs.set j v)
  | [], _, _, h, _ => by cases h
  | g :: r, [], _, _, h => by simp at h
  | g :: r, w :: ws, j, h, hl => by
    unfold posK at h
    by_cases c : g = f
    · rw [if_pos c] at h; cases h
      show (if g = f then (g, v) :: r.zip ws else _) = _
      rw [if_pos c]; rfl
    · rw [if_neg c] at h
      cases e : posK f r with
      | none => rw [e] at h; cases h
      | some i =>
        rw [e] at h; cases h
        show (if g = f then _ else (g, w) :: putF f v (r.zip ws)) = _
        rw [if_neg c, putF_old e (by simpa using hl)]
        rfl
section
variable {K : PySem.W.Frag} {W : WX} {F0 H0 F H F' H' F1 : Hp} {rt : VK} {PT : En → Prop} {env env' : En} {α β γ τ : Type} [ToD α] [ToD β] [ToD γ] [ToD τ] {KP : Res τ → Prop} {te ta tb tc : TE} {tt : TT} {Z : Ends} {t u : TS} {T : L2.St → Hp → Prop} {σ : L2.St}
/-- e.f, e an object that stands still -/
theorem ev_fld {m : Res α} {g : α → β} {c f : Str} {ks : List Str} {j : Nat} (he : EvX K W env te m) (hc : L2.Cls K (He.ga K c)) (hn : NoAttr K (He.ga K c) f) (hj : posK f ks = some j) (hf : ∀ x : α, ∃ ds, toD x = .obj c ks ds ∧ ds[j]? = some (toD (g x))) :
    EvX K W env (tFld K te f) (m.bind fun x => .ok (g x)) := fun F0 H0 F H σ Q S k => by
  refine he F0 H0 F H σ _ S (KE.cut S.ex k fun x v F1 H1 e1 a1 r1 k1 => ?_)
  obtain ⟨ds, e, q⟩ := hf x
  rw [e] at r1
  obtain ⟨a, dx, vs, rfl, h2, h3, h4⟩ := r1
  obtain ⟨w, hw, rw_⟩ := Reps.get h4 q
  exact ⟨a, _, dx, _, w, rfl, a1.in_ _ _ h2, hc, hn, lookup_pos hj hw, k1 _ F1 H1 (Adv.refl a1.in_) rw_⟩
/-- self.f, self an object that is being made -/
theorem ev_fldO {x : α} {c f : Str} {pp : Option Addr} {ks : List Str} {ds : List D} {i j : Nat} (hi : env[i]? = some (some (.oi pp c ks ds))) (hc : L2.Cls K (He.ga K c)) (hn : NoAttr K (He.ga K c) f) (hj : posK f ks = some j) (hd : ds[j]? = some (toD x)) :
    EvX K W env (tFld K (tVar i) f) (.ok x) := fun F0 H0 F H σ Q S k => by
  obtain ⟨v, e, p, dx, vs, rfl, h0, hf, hp, hl, hr, _⟩ := S.slot i _ hi
  obtain ⟨w, hw, rw_⟩ := Reps.get hr hd
  exact ⟨_, e, p, _, dx, _, w, rfl, hp, hc, hn, lookup_pos hj hw, k _ F H (Adv.refl S.ex) rw_⟩
/-- self.f = e, a new field -/
theorem blk_fldN {i : Nat} {m : Res α} {g : α → Res τ} {c f : Str} {pp : Option Addr} {ks : List Str} {ds : List D} (L : Lk K W F0 H0 rt PT KP) (hT : PT env) (he : EvX K W env te m) (hi : env[i]? = some (some (.oi pp c ks ds))) (hc : L2.Cls K (He.ga K c)) (hn : NoAttr K (He.ga K c) f) (hj : posK f ks = none) (hk : ks.length < 1000)
    (k : ∀ x, Blk K F0 H0 KP Z.nx (env.set i (some (.oi pp c (ks ++ [f]) (ds ++ [toD x])))) (g x)) : Blk K F0 H0 KP (sFld K (tVar i) te f Z) env (m.bind g) := fun F H σ S h =>
  he F0 H0 F H σ _ S (L.ke hT S h fun x v F1 H1 e1 a1 r1 h1 => by
    have S1 := S.step a1
    obtain ⟨w, e, p, dx, vs, rfl, h0, hf, hp, hl, hr, hpp⟩ := S1.slot i _ hi
    refine ⟨_, e, p, _, dx, _, rfl, hp, hc, hn, by rw [List.length_zip, ← hl, Nat.min_self]; exact hk, ?_⟩
    refine k x F1 _ σ (S1.chgO hi rfl e hf h0 ⟨p, dx, vs ++ [v], rfl, h0, hf, ?_, by simp [hl], Reps.append hr (Reps.one r1), hpp⟩) h1
    rw [upd_same, putF_new hj hl])
/-- self.f = e, a field that is there -/
theorem blk_fldR {i j : Nat} {m : Res α} {g : α → Res τ} {c f : Str} {pp : Option Addr} {ks : List Str} {ds : List D} (L : Lk K W F0 H0 rt PT KP) (hT : PT env) (he : EvX K W env te m) (hi : env[i]? = some (some (.oi pp c ks ds))) (hc : L2.Cls K (He.ga K c)) (hn : NoAttr K (He.ga K c) f) (hj : posK f ks = some j) (hk : ks.length < 1000)
    (k : ∀ x, Blk K F0 H0 KP Z.nx (env.set i (some (.oi pp c ks (ds.set j (toD x))))) (g x)) : Blk K F0 H0 KP (sFld K (tVar i) te f Z) env (m.bind g) := fun F H σ S h =>
  he F0 H0 F H σ _ S (L.ke hT S h fun x v F1 H1 e1 a1 r1 h1 => by
    have S1 := S.step a1
    obtain ⟨w, e, p, dx, vs, rfl, h0, hf, hp, hl, hr, hpp⟩ := S1.slot i _ hi
    refine ⟨_, e, p, _, dx, _, rfl, hp, hc, hn, by rw [List.length_zip, ← hl, Nat.min_self]; exact hk, ?_⟩
    refine k x F1 _ σ (S1.chgO hi rfl e hf h0 ⟨p, dx, vs.set j v, rfl, h0, hf, ?_, by simp [hl], Reps.set j hr r1, hpp⟩) h1
    rw [upd_same, putF_old hj hl])
/-- o.m(e, ..), o an object that stands still -/
theorem ev_meth {δ : Type} [ToDs δ] {ts : TA} {mo : Res α} {ma : Res δ} {c m : Str} {ks : List Str} {f : α × δ → Res β} (ho : EvX K W env te mo) (ha : EvA K W env ts ma) (hj : posK m ks = none) (hf : ∀ x : α, ∃ ds, toD x = .obj c ks ds) :
    EvX K W env (tMethQ (He.ga K c) m (spM K f) (WE W) te ts) (mo.bind fun x => ma.bind fun y => f (x, y)) := fun F0 H0 F H σ Q S k => by
  refine ho F0 H0 F H σ _ S (KE.cut S.ex k fun x v F1 H1 e1 a1 r1 k1 => ?_)
  obtain ⟨ds, e⟩ := hf x
  have r1' := r1
  rw [e] at r1
  obtain ⟨a, dx, vs, rfl, h2, h3, h4⟩ := r1
  refine ⟨a, dx, _, rfl, a1.in_ _ _ h2, lookup_no hj, ?_⟩
  refine ha F0 H0 F1 H1 σ _ (S.step a1) ?_
  cases ma with
  | ok y =>
    intro ws F2 H2 a2 r2
    have k1 : KE K W F1 H1 σ Q (f (x, y)) := k1
    have k1 := k1.adv a2
    refine ⟨F2, (x, y), a2.in_, ⟨_, ws, rfl, Rep.mono a2.f _ _ r1', r2⟩, ?_⟩
    revert k1
    generalize f (x, y) = z
    intro k1
    cases z with
    | ok z => exact k1
    | exc c => exact k1
    | stuck => exact k1.elim
  | exc c => exact k1
  | stuck => exact k1.elim
theorem ev_meth0 {δ : Type} [ToDs δ] {ts : TA} {mo : Res α} {ma : Res δ} {c m : Str} {ks : List Str} {f : α × δ → Res β} (ho : EvX K W env te mo) (ha : EvA K W env ts ma) (hj : posK m ks = none) (hf : ∀ x : α, ∃ ds, toD x = .obj c ks ds) :
    EvX K W env (tMeth (He.ga K c) m (spM K f) [] E0 te ts) (mo.bind fun x => ma.bind fun y => (f (x, y)).noexc) := fun F0 H0 F H σ Q S k => by
  refine ho F0 H0 F H σ _ S (KE.cut S.ex k fun x v F1 H1 e1 a1 r1 k1 => ?_)
  obtain ⟨ds, e⟩ := hf x
  have r1' := r1
  rw [e] at r1
  obtain ⟨a, dx, vs, rfl, h2, h3, h4⟩ := r1
  refine ⟨a, dx, _, rfl, a1.in_ _ _ h2, lookup_no hj, ?_⟩
  refine ha F0 H0 F1 H1 σ _ (S.step a1) ?_
  cases ma with
  | ok y =>
    intro ws F2 H2 a2 r2
    have k1 : KE K W F1 H1 σ Q (f (x, y)).noexc := k1
    have k1 := k1.adv a2
    refine ⟨F2, (x, y), a2.in_, by rw [List.append_nil]; exact ⟨_, ws, rfl, Rep.mono a2.f _ _ r1', r2⟩, ?_⟩
    revert k1
    generalize f (x, y) = z
    intro k1
    cases z with
    | ok z => exact k1
    | exc c => exact k1.elim
    | stuck => exact k1.elim
  | exc c => exact k1
  | stuck => exact k1.elim
/-- the heap without an object that a def changes -/
def hide (H : Hp) (p : Addr) : Hp := fun q => if q = p then none else H q
theorem hide_same {H : Hp} {p : Addr} : hide H p p = none := if_pos rfl
theorem hide_ne {H : Hp} {p q : Addr} (h : q ≠ p) : hide H p q = H q := if_neg h
theorem hide_ex {H : Hp} {p : Addr} : Ex (hide H p) H := fun a u q => by
  by_cases z : a = p
  · subst z; rw [hide_same] at q; cases q
  · rw [hide_ne z] at q; exact q
/-- the promise of an __init__ -/
def KIn (K : PySem.W.Frag) (F H : Hp) (p : Addr) (Q : VK) (E : XK) : Res α → Prop
  | .ok x => ∀ F' H', Adv F (hide H p) F' H' → Rep K F' (toD x) (.ref p) → Q .non H'
  | .exc c => ∀ F' H', Adv F (hide H p) F' H' → E (.ref (He.ga K c)) none H'
  | .stuck => False
def spI (K : PySem.W.Frag) (c : Str) {δ : Type} [ToDs δ] (f : δ → Res α) : Sp := fun vs H Q E => ∃ F y p dx ws, vs = .ref p :: ws ∧ Ex F H ∧ F p = none ∧ H p = some (.ins (He.ga K c) dx []) ∧ Reps K F (ToDs.ds y) ws ∧ KIn K F H p Q E (f y)
theorem ev_make {δ : Type} [ToDs δ] {ts : TA} {ma : Res δ} {c : Str} {f : δ → Res α} (ha : EvA K W env ts ma) : EvX K W env (tMakeQ (He.ga K c) (spI K c f) (WE W) ts) (ma.bind f) := fun F0 H0 F H σ Q S k => by
  refine ha F0 H0 F H σ _ S ?_
  cases ma with
  | ok y =>
    intro vs F1 H1 a1 r1 x dx nx ndx hne
    have k : KE K W F H σ Q (f y) := k
    have k := k.adv a1
    have ex1 : Ex H1 (hide (upd (upd H1 dx (.own x)) x (.ins (He.ga K c) dx [])) x) := fun a u q => by
      have z : a ≠ x := ne_of_none q nx
      rw [hide_ne z, upd_ne z, upd_ne (ne_of_none q ndx)]
      exact q
    have exF : Ex F1 (upd (upd H1 dx (.own x)) x (.ins (He.ga K c) dx [])) := fun a u q => hide_ex _ _ (ex1 _ _ (a1.in_ _ _ q))
    have ad : ∀ {F' H' : Hp}, Adv F1 (hide (upd (upd H1 dx (.own x)) x (.ins (He.ga K c) dx [])) x) F' H' → Adv F1 H1 F' H' := fun {F' H'} b =>
      ⟨b.f, ex1.trans b.h, b.in_, fun q h1 h2 => b.out q h1 (by
        cases e : H1 q with
        | none => exact absurd e h2
        | some o => rw [ex1 _ _ e]; simp)⟩
    refine ⟨F1, y, x, dx, vs, rfl, exF, none_of_ex a1.in_ nx, upd_same, r1, ?_⟩
    revert k
    generalize f y = z
    intro k
    cases z with
    | ok z => exact fun F' H' b r => ⟨rfl, k _ F' H' (ad b) r⟩
    | exc c => exact fun F' H' b => k F' H' (ad b)
    | stuck => exact k.elim
  | exc c => exact k
  | stuck => exact k.elim
/-- the end of an __init__ -/
theorem blk_finI {Q : VK} {x : τ} {p : Addr} {c : Str} {ks : List Str} {ds : List D} {i : Nat} (L : Lk K W F0 H0 (fun v H' => v = .ref p → Q .non H') PT KP) (hi : env[i]? = some (some (.oi (some p) c ks ds))) (hx : toD x = .obj c ks ds) : Blk K F0 H0 KP (fun _ H' => Q .non H') env (.ok x) := fun F H σ S h => by
  obtain ⟨v, e, q, dx, vs, rfl, h0, hf, hp, hl, hr, hpp⟩ := S.slot i _ hi
  have : q = p := hpp p rfl
  subst this
  obtain ⟨F', ex, S'⟩ := S.freezeI hi
  have hi' : i < env.length := by
    have := (List.getElem?_eq_some_iff.mp hi).1
    exact this
  obtain ⟨v2, e2, r2⟩ := S'.slot i (.im (.obj c ks ds)) (by rw [List.getElem?_set_self hi'])
  rw [e] at e2; cases e2
  exact L.ok x h (.ref q) F' H S'.adv (by rw [hx]; exact r2) rfl
end
section
variable {P : Program} {w : World} {K : PySem.W.Frag} {mg : Str → Option Value} {base : Heap} {x qual : Str} {params : Arguments} {body : List Stmt} {scope : Scope} {dvs : List V} {kws : List (Str × V)} {f : Addr} {fd : FuncData}
theorem sl_startI {K : PySem.W.Frag} {F H : Hp} {N : List Str} {ds : List D} {vs : List V} {p dx : Addr} {c : Str} {n0 : Str} (e : Ex F H) (hf : F p = none) (hp : H p = some (.ins (He.ga K c) dx [])) (r : Reps K F ds vs) :
    Sl K F (hide H p) F H (L2.start (n0 :: N) (.ref p :: vs)) (some (.oi (some p) c [] []) :: enStart N ds) := by
  have hl := r.length
  refine ⟨⟨Ex.refl F, hide_ex, e, fun q h _ => h⟩, fun i sk q => ?_, fun i j sk sk' a hij q q' o o' h1 => ?_, by simp [L2.start, enStart, hl]⟩
  · cases i with
    | zero =>
      simp at q; subst q
      exact ⟨.ref p, by simp [L2.start], p, dx, [], rfl, hide_same, hf, hp, rfl, rfl, fun a h => Option.some.inj h⟩
    | succ i =>
      have q : (enStart N ds)[i]? = some (some sk) := by simpa using q
      unfold enStart at q
      by_cases c : i < ds.length
      · rw [List.getElem?_append_left (by simpa using c), List.getElem?_map, List.getElem?_eq_getElem c] at q
        cases q
        obtain ⟨v, h1, h2⟩ := r.get (List.getElem?_eq_getElem c)
        refine ⟨v, ?_, h2⟩
        unfold L2.start
        rw [List.getElem?_append_left (by simp only [List.map_cons, List.length_cons, List.length_map]; omega), List.getElem?_map, List.getElem?_cons_succ, h1]; rfl
      · rw [List.getElem?_append_right (by simpa using c), List.getElem?_replicate] at q
        split at q <;> cases q
  · have im : ∀ (i : Nat) (sk : Sk), (some (Sk.oi (some p) c [] []) :: enStart N ds)[i]? = some (some sk) → sk.own = true → i = 0 := by
      intro i sk q o
      cases i with
      | zero => rfl
      | succ i =>
        have q : (enStart N ds)[i]? = some (some sk) := by simpa using q
        unfold enStart at q
        by_cases c : i < ds.length
        · rw [List.getElem?_append_left (by simpa using c), List.getElem?_map, List.getElem?_eq_getElem c] at q
          cases q; cases o
        · rw [List.getElem?_append_right (by simpa using c), List.getElem?_replicate] at q
          split at q <;> cases q
    exact absurd ((im i sk q o).trans (im j sk' q' o').symm) hij
theorem fn_okI {N ps : List Str} {n0 : Str} {k : Nat} {β τ : Type} [ToDs β] [ToD τ] {fM : β → Res τ} {c : Str} (F : FunD K x qual params body scope dvs kws f fd) (S : FnScope (n0 :: N) ps scope) (hl : ∀ y : β, (ToDs.ds y).length + 1 = ps.length)
    (hbody : ∀ (cdv : Value) (A : Around) (outer : List Env) (s : Shared) (H : Hp) (E : XK), Room k (A.deeper (PyProof.Rows.envOfC qual scope s.heap.objs.size f cdv)) →
      ∃ t, PSs (cxOf (L2.CX P w) P w K mg base (n0 :: N) qual scope f cdv A outer s H E) body t ∧
        ∀ (y : β) (p : Addr) (F0 H0 : Hp) (Q : VK) (KP : Res τ → Prop), Lk K (fun cls d _ H => E cls d H) F0 H0 (fun v H' => v = .ref p → Q .non H') (fun _ => True) KP → Blk K F0 H0 KP (t { nx := fun _ H' => Q .non H', rt := Q }) (some (.oi (some p) c [] []) :: enStart N (ToDs.ds y)) (fM y)) :
    FnOk P w K mg base (L2.CX P w) (k + 1) f fd ps (spI K c fM) := by
  refine F.ok S (fun vs H Q E h => ?_) (fun cdv A outer s H vs Q E hr h => ?_)
  · obtain ⟨F, y, p, dx, ws, rfl, _, _, _, r, _⟩ := h
    rw [← hl y, List.length_cons, ← r.length]
  · obtain ⟨t, h1, h2⟩ := hbody cdv A outer s H E hr
    refine ⟨t, h1, ?_⟩
    obtain ⟨F, y, p, dx, ws, rfl, e, hf, hp, r, q⟩ := h
    refine h2 y p F (hide H p) Q (fun r => KIn K F H p Q E r) ⟨fun z h v F' H' a r z => ?_, fun c F' H' σ env h _ S' => h F' H' S'.adv, fun z => z⟩ F H _ (sl_startI e hf hp r) q
    subst z
    exact h F' H' a r
end
end Mi
namespace Mi
open PySem PySem.Spec L2
open Evl (Ex)
structure T5 (α β γ δ ε : Type) where
  a : α
  b : β
  c : γ
  e : δ
  f : ε
structure T6 (α β γ δ ε ζ : Type) where
  a : α
  b : β
  c : γ
  e : δ
  f : ε
  g : ζ
structure T8 (α β γ δ ε ζ η θ : Type) where
  a : α
  b : β
  c : γ
  e : δ
  f : ε
  g : ζ
  h : η
  i : θ
instance {α β γ δ ε : Type} [ToD α] [ToD β] [ToD γ] [ToD δ] [ToD ε] : ToD (T5 α β γ δ ε) := ⟨fun x => .tup [ToD.d x.a, ToD.d x.b, ToD.d x.c, ToD.d x.e, ToD.d x.f]⟩
instance {α β γ δ ε ζ : Type} [ToD α] [ToD β] [ToD γ] [ToD δ] [ToD ε] [ToD ζ] : ToD (T6 α β γ δ ε ζ) := ⟨fun x => .tup [ToD.d x.a, ToD.d x.b, ToD.d x.c, ToD.d x.e, ToD.d x.f, ToD.d x.g]⟩
instance {α β γ δ ε ζ η θ : Type} [ToD α] [ToD β] [ToD γ] [ToD δ] [ToD ε] [ToD ζ] [ToD η] [ToD θ] : ToD (T8 α β γ δ ε ζ η θ) := ⟨fun x => .tup [ToD.d x.a, ToD.d x.b, ToD.d x.c, ToD.d x.e, ToD.d x.f, ToD.d x.g, ToD.d x.h, ToD.d x.i]⟩
def optGet {α : Type} : Option α → Res α
  | some x => .ok x
  | none => .stuck
theorem optGet_ok {α : Type} [ToD α] : ∀ (x : Option α) (y : α), optGet x = .ok y → toD y = toD x
  | some x, y, h => by cases h; rfl
  | none, y, h => by cases h
theorem optGet_x {α : Type} : ∀ (x : Option α) (c : Str), optGet x ≠ .exc c
  | some x, c, h => by cases h
  | none, c, h => by cases h
def D.asT1 : D → Res (T1 D)
  | .tup [a] => .ok ⟨a⟩
  | _ => .stuck
def D.asT2 : D → Res (T2 D D)
  | .tup [a, b] => .ok ⟨a, b⟩
  | _ => .stuck
def D.asT3 : D → Res (T3 D D D)
  | .tup [a, b, c] => .ok ⟨a, b, c⟩
  | _ => .stuck
theorem asT1_ok : ∀ (x : D) (y : T1 D), x.asT1 = .ok y → toD y = x := by
  intro x y h
  unfold D.asT1 at h
  split at h
  · cases h; rfl
  · cases h
theorem asT2_ok : ∀ (x : D) (y : T2 D D), x.asT2 = .ok y → toD y = x := by
  intro x y h
  unfold D.asT2 at h
  split at h
  · cases h; rfl
  · cases h
theorem asT3_ok : ∀ (x : D) (y : T3 D D D), x.asT3 = .ok y → toD y = x := by
  intro x y h
  unfold D.asT3 at h
  split at h
  · cases h; rfl
  · cases h
theorem asT1_x (x : D) (c : Str) : x.asT1 ≠ .exc c := by intro h; unfold D.asT1 at h; split at h <;> cases h
theorem asT2_x (x : D) (c : Str) : x.asT2 ≠ .exc c := by intro h; unfold D.asT2 at h; split at h <;> cases h
theorem asT3_x (x : D) (c : Str) : x.asT3 ≠ .exc c := by intro h; unfold D.asT3 at h; split at h <;> cases h
def D.lenR : D → Res Int
  | .tup xs => .ok (xs.length : Int)
  | .lst xs => .ok (xs.length : Int)
  | _ => .stuck
section
variable {K : PySem.W.Frag} {W : WX} {F0 H0 F H F' H' F1 : Hp} {rt : VK} {PT : En → Prop} {env env' : En} {α β γ τ : Type} [ToD α] [ToD β] [ToD γ] [ToD τ] {KP : Res τ → Prop} {te ta tb tc : TE} {tt : TT} {Z : Ends} {t u : TS} {T : L2.St → Hp → Prop} {σ : L2.St}
theorem ev_castG {m : Res α} {f : α → Res β} (hf : ∀ x y, f x = .ok y → toD y = toD x) (hx : ∀ x c, f x ≠ .exc c) (h : EvX K W env te m) : EvX K W env te (m.bind f) := fun F0 H0 F H σ Q S k => by
  refine h F0 H0 F H σ _ S ?_
  cases m with
  | ok x =>
    intro v F1 H1 a r
    have k : KE K W F H σ Q (f x) := k
    cases e : f x with
    | ok y => rw [e] at k; exact k v F1 H1 a (by rw [hf x y e]; exact r)
    | exc c => exact absurd e (hx x c)
    | stuck => rw [e] at k; exact k.elim
  | exc c => exact k
  | stuck => exact k.elim
theorem ev_lenD {m : Res D} (h : EvX K W env te m) : EvX K W env (tCB (rLenS K) (tCons te tNil)) (m.bind fun x => D.lenR x) := fun F0 H0 F H σ Q S k => by
  refine h F0 H0 F H σ _ S (KE.cut S.ex k fun x v F1 H1 e1 a1 r1 k1 => ?_)
  have k1 : KE K W F1 H1 σ Q (D.lenR x) := k1
  cases x with
  | tup xs =>
    obtain ⟨a, vs, rfl, h2, h3⟩ := r1
    refine ⟨a, vs, rfl, .inr (Evl.ex_t a1.in_ h2), ?_⟩
    have := k1 (.int xs.length) F1 H1 (Adv.refl a1.in_) rfl
    rw [← h3.length]; exact this
  | lst xs =>
    obtain ⟨a, vs, rfl, h2, h3⟩ := r1
    refine ⟨a, vs, rfl, .inl (sq_ex a1.in_ h2), ?_⟩
    have := k1 (.int xs.length) F1 H1 (Adv.refl a1.in_) rfl
    rw [← h3.length]; exact this
  | _ => exact k1.elim
theorem cx_lenTu : CrX K (rLenS K) (fun (p : Tu α × Unit) => .ok (p.1.xs.length : Int)) := fun F H x vs Q e r k => by
  obtain ⟨v, rs, rfl, r1, r2⟩ := r
  cases (show rs = [] from r2)
  obtain ⟨a, ws, rfl, h2, h3⟩ := r1
  refine ⟨a, ws, rfl, .inr (Evl.ex_t e h2), ?_⟩
  have := k (.int x.1.xs.length) F H (Adv.refl e) rfl
  rw [← h3.length, List.length_map]; exact this
end
end Mi
set_option maxHeartbeats 1000000
namespace Mi
open PySem PySem.Spec L2
open Evl (Ex)
def CPowX (i j : Int) : Prop := 0 ≤ j ∧ (Builtin.Int.intBits i : Int) * j ≤ 2 ^ 27
theorem op_powX {X : Cx} : OpR X (binaryOp .Pow) (rI CPowX fun i j => .int (i ^ j.toNat)) := opI fun _ _ _ _ _ _ _ hc q => PyProof.Rows.pow_int hc.1 hc.2 q
end Mi
namespace Mi
open PySem PySem.Spec L2
/-- a promise of nothing -/
theorem fnok_stuck {P : Program} {w : World} {K : PySem.W.Frag} {mg : Str → Option Value} {base : Heap} {k : Nat} {f : Addr} {fd : FuncData} {ps : List Str} {β τ : Type} [ToDs β] [ToD τ] (fM : β → Res τ) (h : ∀ y, fM y = .stuck) : FnOk P w K mg base (L2.CX P w) k f fd ps (spM K fM) := by
  have no : ∀ vs H Q E, ¬ spM K fM vs H Q E := by
    rintro vs H Q E ⟨F, x, _, _, q⟩
    rw [h x] at q
    exact q
  exact ⟨fun vs H Q E q => absurd q (no _ _ _ _), fun A outer s H args us vs Q E _ _ _ _ q => absurd q (no _ _ _ _)⟩
end Mi
set_option maxHeartbeats 1000000
namespace Mi
open PySem PySem.Spec L2
open Evl (Ex)
structure T7 (α β γ δ ε ζ η : Type) where
  a : α
  b : β
  c : γ
  e : δ
  f : ε
  g : ζ
  h : η
instance {α β γ δ ε ζ η : Type} [ToD α] [ToD β] [ToD γ] [ToD δ] [ToD ε] [ToD ζ] [ToD η] : ToD (T7 α β γ δ ε ζ η) := ⟨fun x => .tup [ToD.d x.a, ToD.d x.b, ToD.d x.c, ToD.d x.e, ToD.d x.f, ToD.d x.g, ToD.d x.h]⟩

/-! ### the module's constants -/
def tupB (K : PySem.W.Frag) (a : Addr) : Option (List Value) := match K.lookup a with
  | some o => match o.data with
    | .seq its n => if o.cls = .type "tuple" ∧ its.size ≤ sizeLine then some its.toList else none
    | _ => none
  | none => none
mutual
def repB (K : PySem.W.Frag) : D → Value → Bool
  | .non, u => decide (u = .none)
  | .bl b, u => decide (u = .bool b)
  | .int i, .int j _ => decide (j = i)
  | .str s, .str z _ => decide (z = s)
  | .ty n, u => decide (u = .type n)
  | .tup ds, .ref a => (match tupB K a with
    | some us => repsB K ds us
    | none => false)
  | _, _ => false
def repsB (K : PySem.W.Frag) : List D → List Value → Bool
  | [], us => us.isEmpty
  | d :: ds, u :: us => repB K d u && repsB K ds us
  | _ :: _, [] => false
end
theorem tupB_ok {K : PySem.W.Frag} {a : Addr} {us : List Value} (h : tupB K a = some us) {xs : List V} (r : Vals xs us) (F : Hp) : SqT K F a xs := by
  unfold tupB at h
  split at h
  · rename_i o e
    split at h
    · rename_i its n ed
      split at h
      · rename_i hc
        cases h
        exact .inr ⟨o, its, n, e, hc.1, ed, hc.2, r⟩
      · cases h
    · cases h
  · cases h
mutual
theorem repB_ok {K : PySem.W.Frag} : ∀ (d : D) (u : Value), repB K d u = true → ∃ v, RelV v u ∧ ∀ F, Rep K F d v
  | .non, u, h => ⟨.non, (of_decide_eq_true (show decide (u = Value.none) = true from h) : u = Value.none), fun _ => rfl⟩
  | .bl b, u, h => ⟨.bl b, (of_decide_eq_true (show decide (u = Value.bool b) = true from h) : u = Value.bool b), fun _ => rfl⟩
  | .ty n, u, h => ⟨.ty n, (of_decide_eq_true (show decide (u = Value.type n) = true from h) : u = Value.type n), fun _ => rfl⟩
  | .int i, u, h => by
    cases u with
    | int j t => exact ⟨.int i, ⟨t, by rw [of_decide_eq_true (show decide (j = i) = true from h)]⟩, fun _ => rfl⟩
    | _ => cases h
  | .str s, u, h => by
    cases u with
    | str z t => exact ⟨.str s, ⟨t, by rw [of_decide_eq_true (show decide (z = s) = true from h)]⟩, fun _ => rfl⟩
    | _ => cases h
  | .tup ds, u, h => by
    cases u with
    | ref a =>
      rw [repB] at h
      split at h
      · rename_i us e
        obtain ⟨xs, r, hr⟩ := repsB_ok ds us h
        exact ⟨.ref a, rfl, fun F => ⟨a, xs, rfl, tupB_ok e r F, hr F⟩⟩
      · cases h
    | _ => cases h
  | .lst ds, u, h => by cases u <;> cases h
  | .obj c ks ds, u, h => by cases u <;> cases h
  | .ro ds, u, h => by cases u <;> cases h
theorem repsB_ok {K : PySem.W.Frag} : ∀ (ds : List D) (us : List Value), repsB K ds us = true → ∃ xs, Vals xs us ∧ ∀ F, Reps K F ds xs
  | [], us, h => by
    cases us with
    | nil => exact ⟨[], .nil, fun _ => rfl⟩
    | cons u us => cases h
  | d :: ds, us, h => by
    cases us with
    | nil => cases h
    | cons u us =>
      rw [repsB] at h
      obtain ⟨h1, h2⟩ := He.ba h
      obtain ⟨v, r, hv⟩ := repB_ok d u h1
      obtain ⟨xs, rs, hx⟩ := repsB_ok ds us h2
      exact ⟨v :: xs, .cons r rs, fun F => ⟨v, xs, rfl, hv F, hx F⟩⟩
end
def conB (K : PySem.W.Frag) (cs : List (Str × D)) : Bool := cs.all fun c => match PySem.W.nsIn K mainGlobals c.1 with
  | some (some u) => repB K c.2 u
  | _ => false
/-- a name of the module that stands for data -/
def ConF (K : PySem.W.Frag) (mg : Str → Option Value) (x : Str) (d : D) : Prop := ∃ u v, mg x = some u ∧ RelV v u ∧ ∀ F, Rep K F d v
theorem con_of {K : PySem.W.Frag} {h : Heap} {mg : Str → Option Value} {cs : List (Str × D)} (X : K.In h) (G : h.Ns mainGlobals mg) (c : conB K cs = true) {x : Str} {d : D} (m : (x, d) ∈ cs) : ConF K mg x d := by
  have q := List.all_eq_true.mp c _ m
  dsimp only at q
  split at q
  · rename_i u e
    obtain ⟨v, r, hv⟩ := repB_ok d u q
    exact ⟨u, v, PySem.W.mg_of X G e, r, hv⟩
  · cases q
section
variable {K : PySem.W.Frag} {mg : Str → Option Value} {x : Str} {d : D}
noncomputable def ConF.u (h : ConF K mg x d) : Value := h.choose
noncomputable def ConF.v (h : ConF K mg x d) : V := h.choose_spec.choose
theorem ConF.m (h : ConF K mg x d) : mg x = some h.u := h.choose_spec.choose_spec.1
theorem ConF.r (h : ConF K mg x d) : RelV h.v h.u := h.choose_spec.choose_spec.2.1
theorem ConF.p (h : ConF K mg x d) (F : Hp) : Rep K F d h.v := h.choose_spec.choose_spec.2.2 F
theorem ev_con {α : Type} [ToD α] {W : WX} {env : En} {z : α} (h : ConF K mg x (toD z)) : EvX K W env (tC h.v) (.ok z) := fun F0 H0 F H σ Q S k => k _ F H (Adv.refl S.ex) (h.p F)
end
/-! ### is True, is False -/
theorem opx_isB {K : PySem.W.Frag} : OpX K rIsB (fun (i j : Bool) => .ok (decide (i = j))) := fun F H x y v u Q e h1 h2 k => by
  cases (show v = V.bl x from h1); cases (show u = V.bl y from h2)
  exact ⟨x, y, rfl, rfl, k _ F H (Adv.refl e) rfl⟩
theorem opx_notB {K : PySem.W.Frag} : OpX K rNotB (fun (i j : Bool) => .ok (!decide (i = j))) := fun F H x y v u Q e h1 h2 k => by
  cases (show v = V.bl x from h1); cases (show u = V.bl y from h2)
  exact ⟨x, y, rfl, rfl, k _ F H (Adv.refl e) rfl⟩
theorem ev_isET3 {K : PySem.W.Frag} {W : WX} {env : En} {cs : List Str} {sub : Str → Str → Bool} {c x y z : Str} {i : Nat} {a : Addr} (C : Cls K cs sub) (hc : c ∈ cs) (hx : x ∈ cs) (hy : y ∈ cs) (hz : z ∈ cs) (h : env[i]? = some (some (.raw (.ref a)))) :
    EvX K W env (tCB (rIsET K a (.ref (He.ga K c)) none) (tCons (tVar i) (tCons (tTup (tCons (tC (.ref (He.ga K x))) (tCons (tC (.ref (He.ga K y))) (tCons (tC (.ref (He.ga K z))) tNil)))) tNil))) (.ok ([x, y, z].any (sub c))) := fun F0 H0 F H σ Q S k => by
  obtain ⟨v, e, q⟩ := S.slot i _ h
  cases (show v = V.ref a from q)
  refine ⟨_, e, by show 3 ≤ sizeLine; decide, fun p hp => ?_⟩
  have a2 : Adv F H (upd F p (.tup [.ref (He.ga K x), .ref (He.ga K y), .ref (He.ga K z)])) (upd H p (.tup [.ref (He.ga K x), .ref (He.ga K y), .ref (He.ga K z)])) := Adv.new S.ex hp
  refine ⟨He.ga K c, p, [.ref (He.ga K x), .ref (He.ga K y), .ref (He.ga K z)], [.ref (He.ga K x), .ref (He.ga K y), .ref (He.ga K z)], [x, y, z].any (sub c), rfl, rfl, C.exc c hc, rfl, upd_same, (.cons (.own _) (.cons (.own _) (.cons (.own _) .nil))), ?_, k _ _ _ a2 rfl⟩
  exact kit_any C hc (xs := [x, y, z]) (by simp [hx, hy, hz])
theorem ev_isET4 {K : PySem.W.Frag} {W : WX} {env : En} {cs : List Str} {sub : Str → Str → Bool} {c x y z w : Str} {i : Nat} {a : Addr} (C : Cls K cs sub) (hc : c ∈ cs) (hx : x ∈ cs) (hy : y ∈ cs) (hz : z ∈ cs) (hw : w ∈ cs) (h : env[i]? = some (some (.raw (.ref a)))) :
    EvX K W env (tCB (rIsET K a (.ref (He.ga K c)) none) (tCons (tVar i) (tCons (tTup (tCons (tC (.ref (He.ga K x))) (tCons (tC (.ref (He.ga K y))) (tCons (tC (.ref (He.ga K z))) (tCons (tC (.ref (He.ga K w))) tNil))))) tNil))) (.ok ([x, y, z, w].any (sub c))) := fun F0 H0 F H σ Q S k => by
  obtain ⟨v, e, q⟩ := S.slot i _ h
  cases (show v = V.ref a from q)
  refine ⟨_, e, by show 4 ≤ sizeLine; decide, fun p hp => ?_⟩
  have a2 : Adv F H (upd F p (.tup [.ref (He.ga K x), .ref (He.ga K y), .ref (He.ga K z), .ref (He.ga K w)])) (upd H p (.tup [.ref (He.ga K x), .ref (He.ga K y), .ref (He.ga K z), .ref (He.ga K w)])) := Adv.new S.ex hp
  refine ⟨He.ga K c, p, [.ref (He.ga K x), .ref (He.ga K y), .ref (He.ga K z), .ref (He.ga K w)], [.ref (He.ga K x), .ref (He.ga K y), .ref (He.ga K z), .ref (He.ga K w)], [x, y, z, w].any (sub c), rfl, rfl, C.exc c hc, rfl, upd_same, (.cons (.own _) (.cons (.own _) (.cons (.own _) (.cons (.own _) .nil)))), ?_, k _ _ _ a2 rfl⟩
  exact kit_any C hc (xs := [x, y, z, w]) (by simp [hx, hy, hz, hw])
/-! ### lists that are only read -/
section
variable {K : PySem.W.Frag} {W : WX} {F0 H0 F H F' H' F1 : Hp} {env : En} {α β γ : Type} [ToD α] [ToD β] [ToD γ] {te ta tb : TE}
theorem opx_ixR : OpX K (rIxL K) (fun (xs : Ro α) (i : Int) => idx xs.xs i) := fun F H xs i v u Q e h1 h2 k => by
  obtain ⟨a, vs, rfl, hl, hr⟩ := h1
  cases (show u = V.int i from h2)
  dsimp only [idx] at k
  cases q : atI xs.xs i with
  | none => rw [q] at k; exact k.elim
  | some x =>
    rw [q] at k
    obtain ⟨w, hw, rw_⟩ := Reps.at (i := i) hr (x := toD x) (by rw [atI_map, q]; rfl)
    exact ⟨a, vs, i, w, rfl, rfl, Evl.ex_l e hl, hw, k _ F H (Adv.refl e) rw_⟩
theorem cx_lenRo : CrX K (rLenS K) (fun (p : Ro α × Unit) => .ok (p.1.xs.length : Int)) := fun F H x vs Q e r k => by
  obtain ⟨v, rs, rfl, r1, r2⟩ := r
  cases (show rs = [] from r2)
  obtain ⟨a, ws, rfl, hl, hr⟩ := r1
  refine ⟨a, ws, rfl, .inl (Evl.ex_l e hl), ?_⟩
  have := k (.int (x.1.xs.length : Int)) F H (Adv.refl e) rfl
  have l := hr.length
  rw [List.length_map] at l
  rw [← l]; exact this
theorem ei_ro {m : Res (Ro α)} (h : EvX K W env te m) : EvI K W env (iList K te) (m.bind fun x => .ok x.xs) := fun F0 H0 F H σ R S k => by
  refine h F0 H0 F H σ _ S ?_
  cases m with
  | ok x =>
    intro v F1 H1 a r
    obtain ⟨p, vs, rfl, h1, h2⟩ := r
    exact ⟨p, rfl, ⟨vs, Evl.ex_l a.in_ h1⟩, k _ F1 H1 a (js_list h1 h2)⟩
  | exc c => exact k
  | stuck => exact k.elim
theorem en_listR {m : Res (Ro α)} (h : EvX K W env te m) : EvN K W env (tCB (fun xs H Q => ∃ p ys, xs = [V.ref p] ∧ (SqL K H p ys ∨ SqT K H p ys) ∧ ∀ l, H l = none → Q (.ref l) (upd H l (.lst ys))) (tCons te tNil)) (m.bind fun x => .ok x.xs) := fun F0 H0 F H σ Q S k => by
  refine h F0 H0 F H σ _ S ?_
  cases m with
  | ok x =>
    intro v F1 H1 a r
    obtain ⟨p, vs, rfl, h1, h2⟩ := r
    exact ⟨p, vs, rfl, .inl (Evl.ex_l a.in_ h1), fun l hl => k l vs F1 _ (a.trans (Adv.newO a.in_ hl)) (Evl.fresh_back a.h hl) (none_of_ex a.in_ hl) upd_same h2⟩
  | exc c => exact k
  | stuck => exact k.elim
/-! ### joined and repeated lists -/
theorem en_cat {m1 m2 : Res (List α)} (ha : EvX K W env ta m1) (hb : EvX K W env tb m2) : EvN K W env (tOp rCat ta tb) (m1.bind fun x => m2.bind fun y => .need (x.length + y.length ≤ 16777216) (.ok (x ++ y))) := fun F0 H0 F H σ Q S k => by
  refine ha F0 H0 F H σ _ S ?_
  cases m1 with
  | ok x =>
    intro v F1 H1 a1 r1
    refine hb F0 H0 F1 H1 σ _ (S.step a1) ?_
    cases m2 with
    | ok y =>
      intro u F2 H2 a2 r2
      have k : KN K W F H σ Q (Res.need (x.length + y.length ≤ 16777216) (.ok (x ++ y))) := k
      by_cases c : x.length + y.length ≤ 16777216
      · rw [Res.need_pos c] at k
        obtain ⟨p, vs, rfl, h1, h2⟩ := r1
        obtain ⟨q, ws, rfl, g1, g2⟩ := r2
        have l1 := h2.length
        have l2 := g2.length
        rw [List.length_map] at l1 l2
        refine ⟨p, q, vs, ws, rfl, rfl, a2.h _ _ (a1.in_ _ _ h1), a2.in_ _ _ g1, ?_, fun z hz => ?_⟩
        · rw [← l1, ← l2]; exact c
        · refine k z (vs ++ ws) F2 _ ((a1.trans a2).trans (Adv.newO a2.in_ hz)) (Evl.fresh_back (a1.trans a2).h hz) (none_of_ex a2.in_ hz) upd_same ?_
          rw [List.map_append]
          exact Reps.append (Reps.mono a2.f _ _ h2) g2
      · rw [Res.need_neg c] at k; exact k.elim
    | exc c => exact fun F2 H2 a2 => k F2 H2 (a1.trans a2)
    | stuck => exact k.elim
  | exc c => exact k
  | stuck => exact k.elim
theorem Reps.flat {xs : List D} {vs : List V} (h : Reps K F xs vs) : ∀ n : Nat, Reps K F (List.replicate n xs).flatten (List.replicate n vs).flatten
  | 0 => rfl
  | n + 1 => by
    rw [List.replicate_succ, List.replicate_succ, List.flatten_cons, List.flatten_cons]
    exact Reps.append h (Reps.flat h n)
def RepOk (n : Nat) (k : Int) : Prop := -(2 ^ 63) ≤ k ∧ k < 2 ^ 63 ∧ n * k.toNat ≤ 16777216
theorem en_rep {m1 : Res (List α)} {m2 : Res Int} (ha : EvX K W env ta m1) (hb : EvX K W env tb m2) : EvN K W env (tOp rRep ta tb) (m1.bind fun x => m2.bind fun y => .need (RepOk x.length y) (.ok (List.replicate y.toNat x).flatten)) := fun F0 H0 F H σ Q S k => by
  refine ha F0 H0 F H σ _ S ?_
  cases m1 with
  | ok x =>
    intro v F1 H1 a1 r1
    refine hb F0 H0 F1 H1 σ _ (S.step a1) ?_
    cases m2 with
    | ok y =>
      intro u F2 H2 a2 r2
      have k : KN K W F H σ Q (Res.need (RepOk x.length y) (.ok (List.replicate y.toNat x).flatten)) := k
      by_cases c : RepOk x.length y
      · rw [Res.need_pos c] at k
        obtain ⟨p, vs, rfl, h1, h2⟩ := r1
        cases (show u = V.int y from r2)
        have l1 := h2.length
        rw [List.length_map] at l1
        refine ⟨p, y, vs, rfl, rfl, a2.h _ _ (a1.in_ _ _ h1), c.1, c.2.1, ?_, fun z hz => ?_⟩
        · rw [← l1]; exact c.2.2
        · refine k z _ F2 _ ((a1.trans a2).trans (Adv.newO a2.in_ hz)) (Evl.fresh_back (a1.trans a2).h hz) (none_of_ex a2.in_ hz) upd_same ?_
          have := Reps.flat h2 y.toNat
          rw [List.map_flatten, List.map_replicate]
          exact Reps.mono a2.f _ _ this
      · rw [Res.need_neg c] at k; exact k.elim
    | exc c => exact fun F2 H2 a2 => k F2 H2 (a1.trans a2)
    | stuck => exact k.elim
  | exc c => exact k
  | stuck => exact k.elim
theorem rep1 {α : Type} (x : α) (n : Nat) : (List.replicate n [x]).flatten = List.replicate n x := by
  induction n with
  | zero => rfl
  | succ n ih => rw [List.replicate_succ, List.flatten_cons, ih, List.replicate_succ]; rfl
end
end Mi
set_option maxHeartbeats 1000000
namespace Mi
open PySem PySem.Spec L2 PyProof.Rows
open Evl (Ex)
/-! ### xs[i] += e -/
def rGetL : V → V → Hp → VK → Prop := fun o i H Q => ∃ p xs k v, o = .ref p ∧ i = .int k ∧ H p = some (.lst xs) ∧ 0 ≤ k ∧ xs[k.toNat]? = some v ∧ Q v H
theorem pget_list {X : Cx} : PGet X rGetL := by
  intro pins s σ H o i ov iv Q I ro ri h
  obtain ⟨p, xs, k, z, rfl, rfl, hp, h0, hz, q⟩ := h
  cases ro
  obtain ⟨t, rfl⟩ := ri
  obtain ⟨its, r, pl, hs⟩ := I.list (show SqL X.K H p xs from Or.inl (Or.inl hp))
  obtain ⟨w, ew, rw'⟩ := r.get hz
  have hl := r.length
  have hn := line63
  have hlt : k.toNat < xs.length := (List.getElem?_eq_some_iff.mp hz).1
  exact getItem_listL pl.isList h0 (by omega) ew ⟨z, H, I, rw', q⟩
section
variable {K : PySem.W.Frag} {W : WX} {F0 H0 F H F' H' F1 : Hp} {rt : VK} {PT : En → Prop} {env env' : En} {τ : Type} [ToD τ] {KP : Res τ → Prop} {te ta tb tc : TE} {Z : Ends}
theorem blk_augI {i : Nat} {xs : List Int} {m mi : Res Int} {f : List Int → Res τ} {g : Int → Int → Int} (L : Lk K W F0 H0 rt PT KP) (hT : PT env) (hx : env[i]? = some (some (.ow (xs.map toD)))) (hi : EvX K W env tb mi) (he : EvX K W env te m)
    (k : ∀ ys : List Int, Blk K F0 H0 KP Z.nx (env.set i (some (.ow (ys.map toD)))) (f ys)) :
    Blk K F0 H0 KP (tAugS (tVar i) tb te rGetL (ipI g) rSetL Z) env (mi.bind fun j => .need (0 ≤ j) (match xs[j.toNat]? with | some x => m.bind fun y => f (xs.set j.toNat (g x y)) | none => .stuck)) := fun F H σ S h => by
  obtain ⟨v, e, p, vs, rfl, h0, hf, hp, hr⟩ := S.slot i _ hx
  refine ⟨_, e, ?_⟩
  refine hi F0 H0 F H σ _ S (L.ke hT S h fun j w F1 H1 e1 a1 r1 h1 => ?_)
  cases (show w = V.int j from r1)
  have hl : vs.length = xs.length := by rw [← hr.length, List.length_map]
  by_cases c : 0 ≤ j
  · rw [Res.need_pos c] at h1
    cases q : xs[j.toNat]? with
    | none => rw [q] at h1; exact (L.no h1).elim
    | some x =>
      rw [q] at h1
      have hr1 := Reps.mono a1.f _ _ hr
      obtain ⟨z, hz, rz⟩ := Reps.get hr1 (i := j.toNat) (e := D.int x) (by rw [List.getElem?_map, q]; rfl)
      cases (show z = V.int x from rz)
      refine ⟨p, vs, j, _, rfl, rfl, a1.h _ _ hp, c, hz, ?_⟩
      refine he F0 H0 F1 H1 σ _ (S.step a1) (L.ke hT (S.step a1) h1 fun y u F2 H2 e2 a2 r2 h2 => ?_)
      cases (show u = V.int y from r2)
      have ha := a1.trans a2
      have hj : ixN vs.length j = some j.toNat := by
        have := (List.getElem?_eq_some_iff.mp q).1
        unfold ixN
        rw [if_pos c, if_pos (by rw [hl]; omega)]
      refine ⟨x, y, rfl, rfl, p, vs, j, j.toNat, rfl, rfl, ha.h _ _ hp, hj, ?_⟩
      refine k (xs.set j.toNat (g x y)) F2 _ σ ((S.step ha).chg hx e (ha.out p hf (by rw [hp]; simp)) h0 ?_) h2
      rw [List.map_set]
      exact Reps.set j.toNat (Reps.mono ha.f _ _ hr) rfl
  · rw [Res.need_neg c] at h1; exact (L.no h1).elim
end
theorem cr_fld {X : Cx} {K : PySem.W.Frag} {e : Expr} {ta : TE} {f : Str} {pos : Pos} (h : X.K = K) (he : PE X e ta) (hb : attributeBase e f X.env (eval e X.env) = eval e X.env) : PE X (.Attribute e f pos) (tFld K ta f) := by
  subst h; exact pe_fld he hb
end Mi
set_option maxHeartbeats 1000000
namespace Mi
open PySem PySem.Spec L2
/-! ### what follows, in plain mathematics -/
theorem need_bind {α β : Type} {p : Prop} (m : Res α) (f : α → Res β) : (Res.need p m).bind f = Res.need p (m.bind f) := by
  by_cases h : p
  · rw [Res.need_pos h, Res.need_pos h]
  · rw [Res.need_neg h, Res.need_neg h]; rfl
theorem cond_dec {α : Type} {p : Prop} [Decidable p] (a b : α) : cond (decide p) a b = if p then a else b := by
  by_cases h : p <;> simp [h]
theorem cond_not {α : Type} {p : Bool} (a b : α) : cond (!p) a b = cond p b a := by cases p <;> rfl
theorem ibits_le {i : Int} {n : Nat} (h : Builtin.Int.intBits i ≤ n) : i.natAbs < 2 ^ n := by
  unfold Builtin.Int.intBits at h
  split at h
  · rename_i h0
    have : i = 0 := by simpa using h0
    subst this
    exact Nat.two_pow_pos n
  · rename_i h0
    have hne : i.natAbs ≠ 0 := by
      intro z
      apply h0
      have : i = 0 := Int.natAbs_eq_zero.mp z
      simp [this]
    have h1 : i.natAbs.log2 < n := by omega
    exact (Nat.log2_lt hne).mp h1
theorem le_ibits {i : Int} {n : Nat} (h : i.natAbs < 2 ^ n) : Builtin.Int.intBits i ≤ n := by
  unfold Builtin.Int.intBits
  split
  · exact Nat.zero_le _
  · rename_i h0
    have hne : i.natAbs ≠ 0 := by
      intro z
      apply h0
      have : i = 0 := Int.natAbs_eq_zero.mp z
      simp [this]
    have := (Nat.log2_lt hne).mpr h
    omega
theorem cmulx {i j : Int} {a b : Nat} (ha : i.natAbs < 2 ^ a) (hb : j.natAbs < 2 ^ b) (h : a + b ≤ 134217728) : CMulX i j := mulx_ok ha hb h
theorem need_mulx {α : Type} {i j : Int} {m : Res α} {a b : Nat} (ha : i.natAbs < 2 ^ a) (hb : j.natAbs < 2 ^ b) (h : a + b ≤ 134217728) : Res.need (CMulX i j) m = m := Res.need_pos (cmulx ha hb h)
theorem pow_add_lt {x y a b : Nat} (ha : x < 2 ^ a) (hb : y < 2 ^ b) : x * y < 2 ^ (a + b) := by
  rw [Nat.pow_add]; exact Nat.mul_lt_mul'' ha hb
theorem idx_nat {α : Type} {xs : List α} {j : Nat} {v : α} (h : xs[j]? = some v) : idx xs (j : Int) = .ok v := by
  unfold idx; rw [atI_nat h]
theorem idx_int {α : Type} {xs : List α} {i : Int} {v : α} (h0 : 0 ≤ i) (h : xs[i.toNat]? = some v) : idx xs i = .ok v := by
  have : i = (i.toNat : Int) := by omega
  rw [this]; exact idx_nat h
theorem idx_last {α : Type} (xs : List α) (v : α) : idx (xs ++ [v]) (-1) = .ok v := by
  unfold idx; rw [atI_last]
theorem pow31 : ((2 : Int) ^ (31 : Int).toNat) = 2147483648 := by decide +kernel
theorem pow18 : ((10 : Int) ^ (18 : Int).toNat) = 1000000000000000000 := by decide +kernel
theorem m31_lt : (2147483648 : Int).natAbs < 2 ^ 32 := by decide +kernel
theorem compL_none {α β : Type} {t : α → Res Bool} {e : α → Res β} {xs : List α} (h : ∀ x ∈ xs, t x = .ok false) : compL t e xs = .ok [] := by
  induction xs with
  | nil => rfl
  | cons x r ih =>
    show (t x).bind _ = _
    rw [h x List.mem_cons_self]
    exact ih fun y hy => h y (List.mem_cons_of_mem _ hy)
theorem compL_map {α β : Type} {t : α → Res Bool} {e : α → Res β} {g : α → β} {xs : List α} (ht : ∀ x ∈ xs, t x = .ok true) (he : ∀ x ∈ xs, e x = .ok (g x)) : compL t e xs = .ok (xs.map g) := by
  induction xs with
  | nil => rfl
  | cons x r ih =>
    show (t x).bind _ = _
    rw [ht x List.mem_cons_self]
    show (e x).bind _ = _
    rw [he x List.mem_cons_self]
    show (compL t e r).bind _ = _
    rw [ih (fun y hy => ht y (List.mem_cons_of_mem _ hy)) fun y hy => he y (List.mem_cons_of_mem _ hy)]
    rfl
theorem bit1 (x : Int) : Builtin.bitAnd x 1 = x % 2 := by
  have := PySem.W.kbt_mask x 1
  simpa using this
theorem bind_ite {α β : Type} {p : Prop} [Decidable p] (a b : Res α) (f : α → Res β) : (if p then a else b).bind f = if p then a.bind f else b.bind f := by split <;> rfl
theorem idx_getLast {α : Type} {xs : List α} {v : α} (h : xs.getLast? = some v) : idx xs (-1) = .ok v := by
  obtain ⟨ys, rfl⟩ := List.getLast?_eq_some_iff.mp h
  exact idx_last ys v
/-! == of data -/
theorem pyEq_int (i j : Int) : pyEq (.int i) (.int j) = (i == j) := by simp [pyEq, D.py, PyData.eqv]
mutual
/-- no truth values within -/
def D.nob : D → Bool
  | .bl _ => false
  | .ty _ => false
  | .obj _ _ _ => false
  | .ro _ => false
  | .tup xs => nobL xs
  | .lst xs => nobL xs
  | _ => true
def nobL : List D → Bool
  | [] => true
  | x :: xs => D.nob x && nobL xs
end
mutual
theorem pyEq_iff : ∀ (x y : D), x.nob = true → y.nob = true → (PyData.eqv x.py y.py = true ↔ x = y)
  | .non, y, _, h => by cases y <;> simp_all [D.py, PyData.eqv, D.nob]
  | .int i, y, _, h => by cases y <;> simp_all [D.py, PyData.eqv, D.nob]
  | .str s, y, _, h => by cases y <;> simp_all [D.py, PyData.eqv, D.nob]
  | .bl b, y, h, _ => by cases h
  | .ty b, y, h, _ => by cases h
  | .obj a b c, y, h, _ => by cases h
  | .ro a, y, h, _ => by cases h
  | .tup xs, y, h1, h => by
    cases y with
    | tup ys =>
      have := pyEqL_iff xs ys h1 h
      simp only [D.py, PyData.eqv, D.tup.injEq]; exact this
    | bl b => cases h
    | ty b => cases h
    | obj a b c => cases h
    | ro a => cases h
    | _ => simp [D.py, PyData.eqv]
  | .lst xs, y, h1, h => by
    cases y with
    | lst ys =>
      have := pyEqL_iff xs ys h1 h
      simp only [D.py, PyData.eqv, D.lst.injEq]; exact this
    | bl b => cases h
    | ty b => cases h
    | obj a b c => cases h
    | ro a => cases h
    | _ => simp [D.py, PyData.eqv]
theorem pyEqL_iff : ∀ (xs ys : List D), nobL xs = true → nobL ys = true → (PyData.eqvAll (pyL xs) (pyL ys) = true ↔ xs = ys)
  | [], ys, _, h => by cases ys <;> simp [pyL, PyData.eqvAll]
  | x :: xs, ys, h1, h => by
    cases ys with
    | nil => simp [pyL, PyData.eqvAll]
    | cons y ys =>
      obtain ⟨a1, a2⟩ := Bool.and_eq_true_iff.mp (show (D.nob x && nobL xs) = true from h1)
      obtain ⟨b1, b2⟩ := Bool.and_eq_true_iff.mp (show (D.nob y && nobL ys) = true from h)
      simp only [pyL, PyData.eqvAll, Bool.and_eq_true, pyEq_iff x y a1 b1, pyEqL_iff xs ys a2 b2, List.cons.injEq]
end
theorem pyEq_dec {x y : D} (hx : x.nob = true) (hy : y.nob = true) : pyEq x y = true ↔ x = y := pyEq_iff x y hx hy
theorem pyEq_self {x : D} (hx : x.nob = true) : pyEq x x = true := (pyEq_dec hx hx).mpr rfl
theorem pyEq_ne {x y : D} (hx : x.nob = true) (hy : y.nob = true) (h : x ≠ y) : pyEq x y = false := by
  cases e : pyEq x y with
  | false => rfl
  | true => exact absurd ((pyEq_dec hx hy).mp e) h
theorem nob_ints : ∀ xs : List Int, nobL (xs.map D.int) = true
  | [] => rfl
  | _ :: xs => nob_ints xs
theorem nob_strs : ∀ xs : List Str, nobL (xs.map D.str) = true
  | [] => rfl
  | _ :: xs => nob_strs xs
theorem flat_ints : ∀ xs : List Int, flatL (xs.map D.int) = true
  | [] => rfl
  | _ :: xs => flat_ints xs
theorem lay_ints : ∀ xs : List Int, PyData.canLayAll0 (pyL (xs.map D.int)) = true
  | [] => rfl
  | _ :: xs => by show (true && _) = true; rw [lay_ints xs]; rfl
theorem dep_ints : ∀ xs : List Int, PyData.depthAll (pyL (xs.map D.int)) = 0
  | [] => rfl
  | _ :: xs => by show max 0 _ = 0; rw [dep_ints xs]; rfl
theorem okq_ints (xs : List Int) : (toD xs).okq = true := by
  show (flatL (xs.map D.int) && (PyData.canLayAll0 (pyL (xs.map D.int)) && decide (PyData.depthAll (pyL (xs.map D.int)) + 1 ≤ 64))) = true
  rw [flat_ints, lay_ints, dep_ints]; rfl
theorem toD_ints_inj {xs ys : List Int} (h : toD xs = toD ys) : xs = ys := by
  have h : xs.map D.int = ys.map D.int := D.lst.inj h
  exact List.map_inj_right (fun a b q => D.int.inj q) |>.mp h
theorem pyEq_ints (xs ys : List Int) : pyEq (toD xs) (toD ys) = decide (xs = ys) := by
  by_cases h : xs = ys
  · subst h; rw [pyEq_self (show (toD xs).nob = true from nob_ints xs)]; simp
  · rw [pyEq_ne (show (toD xs).nob = true from nob_ints xs) (show (toD ys).nob = true from nob_ints ys) fun e => h (toD_ints_inj e)]; simp [h]
theorem lmin_mem {es : List Int} (h : 0 < es.length) : lmin es ∈ es := by
  cases es with
  | nil => simp at h
  | cons x r =>
    rcases foldl_min_mem r x with q | q
    · show r.foldl min x ∈ x :: r
      rw [q]; exact List.mem_cons_self
    · exact List.mem_cons_of_mem _ q
theorem lmax_mem {es : List Int} (h : 0 < es.length) : lmax es ∈ es := by
  cases es with
  | nil => simp at h
  | cons x r =>
    rcases foldl_max_mem r x with q | q
    · show r.foldl max x ∈ x :: r
      rw [q]; exact List.mem_cons_self
    · exact List.mem_cons_of_mem _ q
theorem pyRange_drop {n i : Nat} (h : i < n) : (pyRange 0 (n : Int)).drop i = (i : Int) :: (pyRange 0 (n : Int)).drop (i + 1) := by
  have hl : (pyRange 0 (n : Int)).length = n := by rw [pyRange_len]; omega
  rw [List.drop_eq_getElem_cons (by omega)]
  congr 1
  have := pyRange_get (lo := 0) (hi := (n : Int)) (i := i) (by omega)
  rw [List.getElem?_eq_getElem (by omega)] at this
  have := Option.some.inj this
  omega
theorem pyRange_nonneg {k n : Int} (h : k ∈ pyRange 0 n) : 0 ≤ k := by
  obtain ⟨i, _, rfl⟩ := List.mem_map.mp h
  omega
theorem toD_D (x : D) : toD x = x := rfl
theorem okq_int (i : Int) : (toD (D.int i)).okq = true := rfl
theorem compL_get {α β : Type} (f : α → Res β) {xs : List α} {ys : List β} (h : xs.length = ys.length) (he : ∀ i (h1 : i < xs.length) (h2 : i < ys.length), f xs[i] = .ok ys[i]) : compL (fun _ => .ok true) f xs = .ok ys := by
  induction xs generalizing ys with
  | nil => cases ys with
    | nil => rfl
    | cons y r => simp at h
  | cons x xs ih =>
    cases ys with
    | nil => simp at h
    | cons y ys =>
      show (f x).bind _ = _
      rw [show f x = .ok y from he 0 (by simp) (by simp)]
      show (compL (fun _ => .ok true) f xs).bind _ = _
      rw [ih (by simpa using h) fun i h1 h2 => he (i + 1) (by simp; omega) (by simp; omega)]
      rfl
end Mi
set_option maxHeartbeats 1000000
namespace Mi
/-! ### primes -/
def IsP (n : Nat) : Prop := 2 ≤ n ∧ ∀ d, d ∣ n → d = 1 ∨ d = n
theorem IsP.cop {p a : Nat} (h : IsP p) (ha : ¬ p ∣ a) : Nat.Coprime p a := by
  rcases h.2 _ (Nat.gcd_dvd_left p a) with e | e
  · exact e
  · exact absurd (e ▸ Nat.gcd_dvd_right p a) ha
theorem IsP.dvd_mul {p a b : Nat} (h : IsP p) (hd : p ∣ a * b) : p ∣ a ∨ p ∣ b := by
  by_cases ha : p ∣ a
  · exact .inl ha
  · exact .inr ((h.cop ha).dvd_of_dvd_mul_left hd)
theorem IsP.dvd_pow {p a : Nat} (h : IsP p) : ∀ k, p ∣ a ^ k → p ∣ a
  | 0, hd => by
    rw [Nat.pow_zero] at hd
    have := Nat.le_of_dvd (by decide) hd
    have := h.1
    omega
  | k + 1, hd => by
    rw [Nat.pow_succ] at hd
    rcases h.dvd_mul hd with q | q
    · exact h.dvd_pow k q
    · exact q
def prodL (l : List Nat) : Nat := l.foldr (· * ·) 1
theorem prodL_perm {l m : List Nat} (h : l.Perm m) : prodL l = prodL m := by
  induction h with
  | nil => rfl
  | cons x _ ih => simp only [prodL, List.foldr_cons] at *; rw [ih]
  | swap x y l => simp only [prodL, List.foldr_cons]; rw [Nat.mul_left_comm]
  | trans _ _ h1 h2 => exact h1.trans h2
theorem perm_of_sub : ∀ (l L : List Nat), l.Nodup → (∀ x ∈ l, x ∈ L) → L.length ≤ l.length → l.Perm L := by
  intro l
  induction l with
  | nil =>
    intro L _ _ h
    have : L = [] := List.eq_nil_of_length_eq_zero (by simpa using h)
    subst this; exact List.Perm.nil
  | cons x r ih =>
    intro L hn hs hl
    obtain ⟨n1, n2⟩ := List.nodup_cons.mp hn
    have hx := hs x List.mem_cons_self
    have e := List.length_erase_of_mem hx
    have hp := List.length_pos_of_mem hx
    have q := ih (L.erase x) n2 (fun y hy => (List.mem_erase_of_ne (by intro z; subst z; exact n1 hy)).mpr (hs y (List.mem_cons_of_mem _ hy))) (by rw [e]; simp at hl; omega)
    exact (q.cons x).trans (List.perm_cons_erase hx).symm
theorem prod_mod (a p : Nat) : ∀ l : List Nat, prodL (l.map fun x => a * x % p) % p = a ^ l.length * prodL l % p := by
  intro l
  induction l with
  | nil => simp [prodL]
  | cons x r ih =>
    show (a * x % p) * prodL (r.map fun x => a * x % p) % p = a ^ (r.length + 1) * (x * prodL r) % p
    rw [Nat.mul_mod, ih, Nat.mod_mod, ← Nat.mul_mod]
    congr 1
    rw [Nat.pow_succ]
    ac_rfl
theorem prod_cop {p : Nat} (h : IsP p) : ∀ l : List Nat, (∀ x ∈ l, 0 < x ∧ x < p) → ¬ p ∣ prodL l := by
  intro l
  induction l with
  | nil =>
    intro _ hd
    have := Nat.le_of_dvd (by decide) hd
    have := h.1
    simp [prodL] at *; omega
  | cons x r ih =>
    intro hx hd
    rcases h.dvd_mul hd with q | q
    · have := hx x List.mem_cons_self
      have := Nat.le_of_dvd this.1 q
      omega
    · exact ih (fun y hy => hx y (List.mem_cons_of_mem _ hy)) q
theorem dvd_sub_of_mod {x y p : Nat} (h : y ≤ x) (e : x % p = y % p) : p ∣ x - y := Nat.dvd_of_mod_eq_zero (Nat.sub_mod_eq_zero_of_mod_eq e)
theorem inj_mod {p a x y : Nat} (h : IsP p) (ha : ¬ p ∣ a) (hx : x < p) (hy : y < p) (e : a * x % p = a * y % p) : x = y := by
  rcases Nat.le_total y x with q | q
  · have d := dvd_sub_of_mod (Nat.mul_le_mul_left a q) e
    rw [← Nat.mul_sub] at d
    rcases h.dvd_mul d with d | d
    · exact absurd d ha
    · have := Nat.eq_zero_of_dvd_of_lt d (by omega); omega
  · have d := dvd_sub_of_mod (Nat.mul_le_mul_left a q) e.symm
    rw [← Nat.mul_sub] at d
    rcases h.dvd_mul d with d | d
    · exact absurd d ha
    · have := Nat.eq_zero_of_dvd_of_lt d (by omega); omega
/-- Fermat -/
theorem fermat {p a : Nat} (h : IsP p) (ha : ¬ p ∣ a) : a ^ (p - 1) % p = 1 := by
  have h2 := h.1
  have hL : ∀ x ∈ List.range' 1 (p - 1), 0 < x ∧ x < p := fun x hx => by
    have := List.mem_range'_1.mp hx; omega
  have nd : (List.range' 1 (p - 1)).Nodup := List.nodup_range'
  have pm : ((List.range' 1 (p - 1)).map fun x => a * x % p).Perm (List.range' 1 (p - 1)) := by
    refine perm_of_sub _ _ ?_ ?_ (by simp)
    · refine List.pairwise_map.mpr (List.Pairwise.imp_of_mem (fun {x y} hx hy q e => q (inj_mod h ha (hL x hx).2 (hL y hy).2 e)) nd)
    · intro y hy
      obtain ⟨x, hx, rfl⟩ := List.mem_map.mp hy
      have q := hL x hx
      have lt := Nat.mod_lt (a * x) (show 0 < p by omega)
      refine List.mem_range'_1.mpr ⟨Nat.pos_of_ne_zero fun z => ?_, by omega⟩
      rcases h.dvd_mul (Nat.dvd_of_mod_eq_zero z) with d | d
      · exact ha d
      · have := Nat.le_of_dvd q.1 d; omega
  have e := prod_mod a p (List.range' 1 (p - 1))
  rw [prodL_perm pm, List.length_range'] at e
  have nc := prod_cop h _ hL
  generalize prodL (List.range' 1 (p - 1)) = P at *
  have hpos : 0 < a := Nat.pos_of_ne_zero fun z => ha (z ▸ Nat.dvd_zero p)
  have h1 : 1 ≤ a ^ (p - 1) := Nat.pow_pos hpos
  have d := dvd_sub_of_mod (x := a ^ (p - 1) * P) (y := P) (by
    have := Nat.mul_le_mul_right P h1; omega) e.symm
  have e3 : a ^ (p - 1) * P - P = (a ^ (p - 1) - 1) * P := by rw [Nat.sub_mul, Nat.one_mul]
  rw [e3] at d
  rcases h.dvd_mul d with d | d
  · obtain ⟨k, hk⟩ := d
    have : a ^ (p - 1) = 1 + p * k := by omega
    rw [this, Nat.add_mul_mod_self_left, Nat.mod_eq_of_lt (by omega)]
  · exact absurd d nc
theorem pow_mod_one {b m : Nat} (hm : 1 < m) {i : Nat} (h : b ^ i % m = 1) (k : Nat) : b ^ (i * k) % m = 1 := by
  rw [Nat.pow_mul, Nat.pow_mod, h, Nat.one_pow, Nat.mod_eq_of_lt hm]
theorem pow_gcd {b m : Nat} (hm : 1 < m) (i j : Nat) : b ^ i % m = 1 → b ^ j % m = 1 → b ^ Nat.gcd i j % m = 1 := by
  induction i, j using Nat.gcd.induction with
  | H0 n => intro _ h; rwa [Nat.gcd_zero_left]
  | H1 i j hi ih =>
    intro h1 h2
    rw [Nat.gcd_rec]
    refine ih ?_ h1
    have e := Nat.div_add_mod j i
    rw [← e, Nat.pow_add, Nat.mul_mod, pow_mod_one hm h1, Nat.one_mul, Nat.mod_mod] at h2
    exact h2
/-- every prime factor of n is 1 above a multiple of q -/
theorem pock {n a q : Nat} (hq : IsP q) (hd : q ∣ n - 1) (h1 : a ^ (n - 1) % n = 1) (hg : Nat.gcd (a ^ ((n - 1) / q) % n - 1) n = 1) (h0 : 0 < a ^ ((n - 1) / q) % n) {p : Nat} (hp : IsP p) (hpn : p ∣ n) : q ∣ p - 1 := by
  have p2 := hp.1
  have hb : (a ^ ((n - 1) / q)) ^ q % p = 1 := by
    rw [← Nat.pow_mul, Nat.div_mul_cancel hd, ← Nat.mod_mod_of_dvd _ hpn, h1, Nat.mod_eq_of_lt (by omega)]
  have hnd : ¬ p ∣ a ^ ((n - 1) / q) := fun d => by
    have : p ∣ (a ^ ((n - 1) / q)) ^ q := by
      have hq0 : q = (q - 1) + 1 := by have := hq.1; omega
      generalize a ^ ((n - 1) / q) = b at *
      rw [hq0, Nat.pow_succ]
      exact Nat.dvd_trans d (Nat.dvd_mul_left ..)
    rw [Nat.mod_eq_zero_of_dvd this] at hb; cases hb
  have f := fermat hp hnd
  have g := pow_gcd (by omega) q (p - 1) hb f
  rcases hq.2 _ (Nat.gcd_dvd_left q (p - 1)) with e | e
  · rw [e, Nat.pow_one] at g
    have d : p ∣ a ^ ((n - 1) / q) % n - 1 := by
      refine dvd_sub_of_mod (by omega) ?_
      rw [Nat.mod_mod_of_dvd _ hpn, g, Nat.mod_eq_of_lt (by omega)]
    have := Nat.dvd_gcd d hpn
    rw [hg] at this
    have := Nat.le_of_dvd (by decide) this
    omega
  · exact e ▸ Nat.gcd_dvd_right q (p - 1)
theorem has_prime : ∀ (n : Nat), 2 ≤ n → ∃ p, IsP p ∧ p ∣ n := by
  intro n
  induction n using Nat.strongRecOn with
  | ind n ih =>
    intro h
    by_cases hp : IsP n
    · exact ⟨n, hp, Nat.dvd_refl n⟩
    · have : ∃ d, d ∣ n ∧ d ≠ 1 ∧ d ≠ n := by
        refine Classical.byContradiction fun c => hp ⟨h, fun d hd => ?_⟩
        refine Classical.byContradiction fun e => c ⟨d, hd, fun z => e (.inl z), fun z => e (.inr z)⟩
      obtain ⟨d, hd, h1, h2⟩ := this
      have hle := Nat.le_of_dvd (by omega) hd
      have h0 : d ≠ 0 := fun z => by subst z; have := Nat.eq_zero_of_zero_dvd hd; omega
      obtain ⟨p, p1, p2⟩ := ih d (by omega) (by omega)
      exact ⟨p, p1, Nat.dvd_trans p2 hd⟩
/-- no prime factor up to the root: a prime -/
theorem isP_of {n : Nat} (h2 : 2 ≤ n) (h : ∀ p, IsP p → p ∣ n → n < p * p) : IsP n := by
  refine ⟨h2, fun d hd => Classical.byContradiction fun c => ?_⟩
  have hle := Nat.le_of_dvd (by omega) hd
  have h0 : d ≠ 0 := fun z => by subst z; have := Nat.eq_zero_of_zero_dvd hd; omega
  have h1 : d ≠ 1 := fun z => c (.inl z)
  have h3 : d ≠ n := fun z => c (.inr z)
  obtain ⟨e, rfl⟩ := hd
  have e2 : 2 ≤ e := by
    rcases (by omega : e = 0 ∨ e = 1 ∨ 2 ≤ e) with rfl | rfl | q
    · omega
    · omega
    · exact q
  obtain ⟨p, p1, p2⟩ := has_prime d (by omega)
  obtain ⟨q, q1, q2⟩ := has_prime e e2
  have a1 := h p p1 (Nat.dvd_trans p2 (Nat.dvd_mul_right d e))
  have a2 := h q q1 (Nat.dvd_trans q2 (Nat.dvd_mul_left e d))
  have b1 := Nat.le_of_dvd (by omega) p2
  have b2 := Nat.le_of_dvd (by omega) q2
  have b3 := Nat.mul_le_mul b1 b2
  rcases Nat.le_total p q with z | z
  · have := Nat.mul_le_mul_left p z; omega
  · have := Nat.mul_le_mul_right q z; omega
/-- the power's residue, as the kernel works it out -/
def pwm (n : Nat) : Nat → Nat → Nat → Nat → Nat
  | 0, _, _, acc => acc
  | f + 1, b, e, acc => pwm n f (b * b % n) (e / 2) (if e % 2 = 1 then acc * b % n else acc)
theorem pwm_eq (n : Nat) : ∀ (f b e acc : Nat), e < 2 ^ f → pwm n f b e acc % n = acc * b ^ e % n := by
  intro f
  induction f with
  | zero => intro b e acc h; have : e = 0 := by simpa using h
            subst this; simp [pwm]
  | succ f ih =>
    intro b e acc h
    rw [pwm, ih _ _ _ (by rw [Nat.pow_succ] at h; omega)]
    have e2 : b ^ e = (b * b) ^ (e / 2) * b ^ (e % 2) := by
      rw [← Nat.pow_two, ← Nat.pow_mul, ← Nat.pow_add, Nat.div_add_mod]
    rw [e2, Nat.mul_mod, ← Nat.pow_mod, ← Nat.mul_mod]
    rcases (by omega : e % 2 = 0 ∨ e % 2 = 1) with z | z
    · rw [z, if_neg (by decide), Nat.pow_zero, Nat.mul_one]
    · rw [z, if_pos rfl, Nat.pow_one, Nat.mul_mod, Nat.mod_mod, ← Nat.mul_mod]
      congr 1; ac_rfl
theorem pwm_one {n f b e : Nat} (h : e < 2 ^ f) : pwm n f b e 1 % n = b ^ e % n := by rw [pwm_eq n f b e 1 h, Nat.one_mul]
/-- one prime q of n - 1, by numbers -/
def pkOk (n a q f : Nat) : Bool := decide (q ∣ n - 1) && decide (n - 1 < 2 ^ f) && decide (pwm n f a (n - 1) 1 % n = 1) && decide (Nat.gcd (pwm n f a ((n - 1) / q) 1 % n - 1) n = 1) && decide (0 < pwm n f a ((n - 1) / q) 1 % n)
theorem pk_of {n a q f : Nat} (hq : IsP q) (h : pkOk n a q f = true) {p : Nat} (hp : IsP p) (hpn : p ∣ n) : q ∣ p - 1 := by
  simp only [pkOk, Bool.and_eq_true, decide_eq_true_eq] at h
  obtain ⟨⟨⟨⟨h1, h2⟩, h3⟩, h4⟩, h5⟩ := h
  have h6 : (n - 1) / q < 2 ^ f := Nat.lt_of_le_of_lt (Nat.div_le_self ..) h2
  rw [pwm_one h2] at h3
  rw [pwm_one h6] at h4 h5
  exact pock hq h1 h3 h4 h5 hp hpn
theorem small_prime {n : Nat} (h2 : 2 ≤ n) (h : ∀ d, 2 ≤ d → d * d ≤ n → ¬ d ∣ n) : IsP n :=
  isP_of h2 fun p hp hd => Nat.lt_of_not_le fun z => h p hp.1 z hd
def noDiv (n : Nat) : Nat → Nat → Bool
  | 0, _ => true
  | f + 1, d => !decide (n % d = 0) && noDiv n f (d + 1)
theorem noDiv_ok (n : Nat) : ∀ (f d : Nat), noDiv n f d = true → ∀ k, d ≤ k → k < d + f → ¬ k ∣ n
  | 0, d, _, k, h1, h2 => by omega
  | f + 1, d, h, k, h1, h2 => by
    rw [noDiv, Bool.and_eq_true] at h
    obtain ⟨a, b⟩ := h
    by_cases e : k = d
    · subst e
      intro z
      rw [Nat.mod_eq_zero_of_dvd z] at a
      simp at a
    · exact noDiv_ok n f (d + 1) b k (by omega) (by omega)
theorem prime_by {n f : Nat} (h2 : 2 ≤ n) (hf : n < (f + 2) * (f + 2)) (h : noDiv n f 2 = true) : IsP n :=
  small_prime h2 fun d h3 h4 h5 => noDiv_ok n f 2 h d h3 (Nat.lt_of_not_le fun z => by
    have := Nat.mul_le_mul z z
    rw [Nat.add_comm] at hf
    omega) h5
theorem IsP.eq_of_dvd {p q : Nat} (hp : IsP p) (hq : IsP q) (h : p ∣ q) : p = q := by
  rcases hq.2 p h with e | e
  · have := hp.1; omega
  · exact e
theorem IsP.dvd_prod {p : Nat} (h : IsP p) : ∀ l : List Nat, (∀ x ∈ l, IsP x) → p ∣ prodL l → p ∈ l := by
  intro l
  induction l with
  | nil =>
    intro _ hd
    have hd : p ∣ 1 := hd
    have := Nat.le_of_dvd (by decide) hd
    have := h.1
    omega
  | cons x r ih =>
    intro hx hd
    rcases h.dvd_mul hd with q | q
    · rw [h.eq_of_dvd (hx x List.mem_cons_self) q]; exact List.mem_cons_self
    · exact List.mem_cons_of_mem _ (ih (fun y hy => hx y (List.mem_cons_of_mem _ hy)) q)
theorem prod_dvd : ∀ (l : List Nat) (m : Nat), l.Nodup → (∀ x ∈ l, IsP x) → (∀ x ∈ l, x ∣ m) → prodL l ∣ m := by
  intro l
  induction l with
  | nil => intro m _ _ _; exact Nat.one_dvd m
  | cons x r ih =>
    intro m hn hp hd
    obtain ⟨n1, n2⟩ := List.nodup_cons.mp hn
    have hx := hp x List.mem_cons_self
    have hr := fun y hy => hp y (List.mem_cons_of_mem x hy)
    have c := hx.cop (fun z => n1 (hx.dvd_prod r hr z))
    exact Nat.Coprime.mul_dvd_of_dvd_of_dvd c (hd x List.mem_cons_self) (ih m n2 hr fun y hy => hd y (List.mem_cons_of_mem _ hy))
theorem isP_pock {n f : Nat} (h2 : 2 ≤ n) (qs : List (Nat × Nat)) (hp : ∀ x ∈ qs, IsP x.1) (hk : (qs.all fun x => pkOk n x.2 x.1 f) = true) (hd : (qs.map (·.1)).Nodup) (hF : n < (prodL (qs.map (·.1)) + 1) * (prodL (qs.map (·.1)) + 1)) : IsP n := by
  refine isP_of h2 fun p p1 p2 => ?_
  have d := prod_dvd (qs.map (·.1)) (p - 1) hd (fun x hx => by
    obtain ⟨y, hy, rfl⟩ := List.mem_map.mp hx
    exact hp y hy) (fun x hx => by
    obtain ⟨y, hy, rfl⟩ := List.mem_map.mp hx
    exact pk_of (hp y hy) (List.all_eq_true.mp hk y hy) p1 p2)
  have := p1.1
  have le := Nat.le_of_dvd (by omega) d
  have := Nat.mul_le_mul (show prodL (qs.map (·.1)) + 1 ≤ p by omega) (show prodL (qs.map (·.1)) + 1 ≤ p by omega)
  omega
theorem p61 : IsP 1321 ∧ IsP 331 ∧ IsP 151 ∧ IsP 61 := ⟨prime_by (f := 40) (by decide) (by decide) (by decide +kernel), prime_by (f := 40) (by decide) (by decide) (by decide +kernel), prime_by (f := 40) (by decide) (by decide) (by decide +kernel), prime_by (f := 40) (by decide) (by decide) (by decide +kernel)⟩
theorem prime_m61 : IsP 2305843009213693951 := isP_pock (f := 61) (by decide) [(1321, 3), (331, 3), (151, 3), (61, 2)] (by simp only [List.forall_mem_cons]; exact ⟨p61.1, p61.2.1, p61.2.2.1, p61.2.2.2, by simp⟩) (by decide +kernel) (by decide +kernel) (by decide +kernel)
theorem prime_m31 : IsP 2147483647 := isP_pock (f := 31) (by decide) [(331, 3), (151, 3)] (by simp only [List.forall_mem_cons]; exact ⟨p61.2.1, p61.2.2.1, by simp⟩) (by decide +kernel) (by decide +kernel) (by decide +kernel)
theorem pr_8574133 : IsP 8574133 := prime_by (f := 2928) (by decide) (by decide) (by decide +kernel)
theorem pr_127 : IsP 127 := prime_by (f := 11) (by decide) (by decide) (by decide +kernel)
theorem pr_1919519569386763 : IsP 1919519569386763 := isP_pock (f := 51) (by decide) [(8574133, 2), (127, 2)] (by simp only [List.forall_mem_cons]; exact ⟨pr_8574133, pr_127, by simp⟩) (by decide +kernel) (by decide +kernel) (by decide +kernel)
theorem pr_569003 : IsP 569003 := prime_by (f := 754) (by decide) (by decide) (by decide +kernel)
theorem pr_2773320623 : IsP 2773320623 := isP_pock (f := 32) (by decide) [(569003, 2)] (by simp only [List.forall_mem_cons]; exact ⟨pr_569003, by simp⟩) (by decide +kernel) (by decide +kernel) (by decide +kernel)
theorem pr_72106336199 : IsP 72106336199 := isP_pock (f := 37) (by decide) [(2773320623, 2)] (by simp only [List.forall_mem_cons]; exact ⟨pr_2773320623, by simp⟩) (by decide +kernel) (by decide +kernel) (by decide +kernel)
theorem pr_75445702479781427272750846543864801 : IsP 75445702479781427272750846543864801 := isP_pock (f := 116) (by decide) [(1919519569386763, 2), (72106336199, 2)] (by simp only [List.forall_mem_cons]; exact ⟨pr_1919519569386763, pr_72106336199, by simp⟩) (by decide +kernel) (by decide +kernel) (by decide +kernel)
theorem pr_430751 : IsP 430751 := prime_by (f := 656) (by decide) (by decide) (by decide +kernel)
theorem pr_4153 : IsP 4153 := prime_by (f := 64) (by decide) (by decide) (by decide +kernel)
theorem pr_31757755568855353 : IsP 31757755568855353 := isP_pock (f := 55) (by decide) [(430751, 2), (4153, 2)] (by simp only [List.forall_mem_cons]; exact ⟨pr_430751, pr_4153, by simp⟩) (by decide +kernel) (by decide +kernel) (by decide +kernel)
theorem pr_74058212732561358302231226437062788676166966415465897661863160754340907 : IsP 74058212732561358302231226437062788676166966415465897661863160754340907 := isP_pock (f := 236) (by decide) [(75445702479781427272750846543864801, 2), (31757755568855353, 2)] (by simp only [List.forall_mem_cons]; exact ⟨pr_75445702479781427272750846543864801, pr_31757755568855353, by simp⟩) (by decide +kernel) (by decide +kernel) (by decide +kernel)
theorem pr_57896044618658097711785492504343953926634992332820282019728792003956564819949 : IsP 57896044618658097711785492504343953926634992332820282019728792003956564819949 := isP_pock (f := 255) (by decide) [(74058212732561358302231226437062788676166966415465897661863160754340907, 2)] (by simp only [List.forall_mem_cons]; exact ⟨pr_74058212732561358302231226437062788676166966415465897661863160754340907, by simp⟩) (by decide +kernel) (by decide +kernel) (by decide +kernel)
theorem pr_53 : IsP 53 := prime_by (f := 7) (by decide) (by decide) (by decide +kernel)
theorem pr_29 : IsP 29 := prime_by (f := 5) (by decide) (by decide) (by decide +kernel)
theorem pr_7 : IsP 7 := prime_by (f := 2) (by decide) (by decide) (by decide +kernel)
theorem pr_107590001 : IsP 107590001 := isP_pock (f := 27) (by decide) [(53, 2), (29, 2), (7, 2)] (by simp only [List.forall_mem_cons]; exact ⟨pr_53, pr_29, pr_7, by simp⟩) (by decide +kernel) (by decide +kernel) (by decide +kernel)
theorem pr_7240687 : IsP 7240687 := prime_by (f := 2690) (by decide) (by decide) (by decide +kernel)
theorem pr_96557 : IsP 96557 := prime_by (f := 310) (by decide) (by decide) (by decide +kernel)
theorem pr_255515944373312847190720520512484175977 : IsP 255515944373312847190720520512484175977 := isP_pock (f := 128) (by decide) [(107590001, 2), (7240687, 2), (96557, 2)] (by simp only [List.forall_mem_cons]; exact ⟨pr_107590001, pr_7240687, pr_96557, by simp⟩) (by decide +kernel) (by decide +kernel) (by decide +kernel)
theorem pr_205115282021455665897114700593932402728804164701536103180137503955397371 : IsP 205115282021455665897114700593932402728804164701536103180137503955397371 := isP_pock (f := 237) (by decide) [(255515944373312847190720520512484175977, 2)] (by simp only [List.forall_mem_cons]; exact ⟨pr_255515944373312847190720520512484175977, by simp⟩) (by decide +kernel) (by decide +kernel) (by decide +kernel)
theorem pr_115792089237316195423570985008687907853269984665640564039457584007908834671663 : IsP 115792089237316195423570985008687907853269984665640564039457584007908834671663 := isP_pock (f := 256) (by decide) [(205115282021455665897114700593932402728804164701536103180137503955397371, 2)] (by simp only [List.forall_mem_cons]; exact ⟨pr_205115282021455665897114700593932402728804164701536103180137503955397371, by simp⟩) (by decide +kernel) (by decide +kernel) (by decide +kernel)
theorem pr_704251 : IsP 704251 := prime_by (f := 839) (by decide) (by decide) (by decide +kernel)
theorem pr_78283 : IsP 78283 := prime_by (f := 279) (by decide) (by decide) (by decide +kernel)
theorem pr_46076956964474543 : IsP 46076956964474543 := isP_pock (f := 56) (by decide) [(704251, 2), (78283, 2)] (by simp only [List.forall_mem_cons]; exact ⟨pr_704251, pr_78283, by simp⟩) (by decide +kernel) (by decide +kernel) (by decide +kernel)
theorem pr_3677 : IsP 3677 := prime_by (f := 60) (by decide) (by decide) (by decide +kernel)
theorem pr_197 : IsP 197 := prime_by (f := 14) (by decide) (by decide) (by decide +kernel)
theorem pr_66417393611 : IsP 66417393611 := isP_pock (f := 36) (by decide) [(3677, 2), (197, 2)] (by simp only [List.forall_mem_cons]; exact ⟨pr_3677, pr_197, by simp⟩) (by decide +kernel) (by decide +kernel) (by decide +kernel)
theorem pr_11290956913871 : IsP 11290956913871 := isP_pock (f := 44) (by decide) [(66417393611, 2)] (by simp only [List.forall_mem_cons]; exact ⟨pr_66417393611, by simp⟩) (by decide +kernel) (by decide +kernel) (by decide +kernel)
theorem pr_774023187263532362759620327192479577272145303 : IsP 774023187263532362759620327192479577272145303 := isP_pock (f := 150) (by decide) [(46076956964474543, 2), (11290956913871, 2)] (by simp only [List.forall_mem_cons]; exact ⟨pr_46076956964474543, pr_11290956913871, by simp⟩) (by decide +kernel) (by decide +kernel) (by decide +kernel)
theorem pr_835945042244614951780389953367877943453916927241 : IsP 835945042244614951780389953367877943453916927241 := isP_pock (f := 160) (by decide) [(774023187263532362759620327192479577272145303, 2)] (by simp only [List.forall_mem_cons]; exact ⟨pr_774023187263532362759620327192479577272145303, by simp⟩) (by decide +kernel) (by decide +kernel) (by decide +kernel)
theorem pr_115792089210356248762697446949407573530086143415290314195533631308867097853951 : IsP 115792089210356248762697446949407573530086143415290314195533631308867097853951 := isP_pock (f := 256) (by decide) [(835945042244614951780389953367877943453916927241, 2)] (by simp only [List.forall_mem_cons]; exact ⟨pr_835945042244614951780389953367877943453916927241, by simp⟩) (by decide +kernel) (by decide +kernel) (by decide +kernel)
end Mi
set_option maxHeartbeats 1000000
namespace Mi
/-! ### residues -/
theorem em_mul {p x y u v : Int} (h : x % p = u % p) (h2 : y % p = v % p) : x * y % p = u * v % p := by rw [Int.mul_emod, h, h2, ← Int.mul_emod]
theorem em_pow {p x u : Int} (h : x % p = u % p) : ∀ k : Nat, x ^ k % p = u ^ k % p
  | 0 => by rw [Int.pow_zero, Int.pow_zero]
  | k + 1 => by rw [Int.pow_succ, Int.pow_succ]; exact em_mul (em_pow h k) h
theorem em_em (x p : Int) : x % p % p = x % p := Int.emod_emod_of_dvd x (Int.dvd_refl p)
theorem em_dvd {p x y : Int} (h : x % p = y % p) : p ∣ x - y := Int.dvd_of_emod_eq_zero (Int.emod_eq_emod_iff_emod_sub_eq_zero.mp h)
theorem em_of_dvd {p x y : Int} (h : p ∣ x - y) : x % p = y % p := Int.emod_eq_emod_iff_emod_sub_eq_zero.mpr (Int.emod_eq_zero_of_dvd h)
theorem IsP.dvd_mulI {p : Nat} (h : IsP p) {a b : Int} (hd : (p : Int) ∣ a * b) : (p : Int) ∣ a ∨ (p : Int) ∣ b := by
  have := Int.natAbs_dvd_natAbs.mpr hd
  rw [Int.natAbs_mul, Int.natAbs_natCast] at this
  rcases h.dvd_mul this with q | q
  · exact .inl (Int.natAbs_dvd_natAbs.mp (by rw [Int.natAbs_natCast]; exact q))
  · exact .inr (Int.natAbs_dvd_natAbs.mp (by rw [Int.natAbs_natCast]; exact q))
theorem IsP.dvd_powI {p : Nat} (h : IsP p) {a : Int} : ∀ k : Nat, (p : Int) ∣ a ^ k → (p : Int) ∣ a
  | 0, hd => by
    rw [Int.pow_zero] at hd
    have := Int.le_of_dvd (by decide) hd
    have := h.1
    omega
  | k + 1, hd => by
    rw [Int.pow_succ] at hd
    rcases h.dvd_mulI hd with q | q
    · exact h.dvd_powI k q
    · exact q
theorem fermatI {p : Nat} (h : IsP p) {a : Int} (ha : ¬ (p : Int) ∣ a) : a ^ (p - 1) % p = 1 := by
  have h2 := h.1
  have e0 := Int.emod_nonneg a (show (p : Int) ≠ 0 by omega)
  obtain ⟨x, hx⟩ := Int.eq_ofNat_of_zero_le e0
  have hn : ¬ p ∣ x := fun d => by
    obtain ⟨k, rfl⟩ := d
    refine ha (Int.dvd_of_emod_eq_zero ?_)
    rw [← em_em a p, hx]
    exact Int.emod_eq_zero_of_dvd ⟨k, by show ((p * k : Nat) : Int) = _; rw [Int.natCast_mul]⟩
  have f := fermat h hn
  rw [em_pow (u := (x : Int)) (by rw [← hx, em_em])]
  rw [← Int.natCast_pow, ← Int.natCast_emod, f]; rfl
theorem sq_one {p : Nat} (h : IsP p) {x : Int} (hx : x * x % p = 1) : x % p = 1 ∨ x % p = p - 1 := by
  have h2 := h.1
  have o : (1 : Int) % p = 1 := Int.emod_eq_of_lt (by decide) (by omega)
  have d := em_dvd (p := p) (x := x * x) (y := 1) (by rw [hx, o])
  rw [show x * x - 1 = (x - 1) * (x - -1) by grind] at d
  rcases h.dvd_mulI d with q | q
  · left; rw [em_of_dvd q, o]
  · right
    rw [em_of_dvd q]
    have : (-1 : Int) = (p - 1 : Int) + p * (-1) := by omega
    rw [this, Int.add_mul_emod_self_left, Int.emod_eq_of_lt (by omega) (by omega)]
theorem m1_sq {p : Nat} (h : IsP p) {x : Int} (hx : x % p = p - 1) : x * x % p = 1 := by
  have h2 := h.1
  have o : (1 : Int) % p = 1 := Int.emod_eq_of_lt (by decide) (by omega)
  have hp : ((p : Int) - 1) % p = p - 1 := Int.emod_eq_of_lt (by omega) (by omega)
  rw [em_mul (hx.trans hp.symm) (hx.trans hp.symm), show ((p : Int) - 1) * (p - 1) = 1 + p * (p - 2) by grind, Int.add_mul_emod_self_left, o]
/-! ### a polynomial's roots -/
def evp : List Int → Int → Int
  | [], _ => 0
  | c :: cs, x => c + x * evp cs x
def dvp : List Int → Int → List Int
  | [], _ => []
  | [_], _ => []
  | _ :: d :: cs, r => evp (d :: cs) r :: dvp (d :: cs) r
theorem evp_dvp : ∀ (cs : List Int) (x r : Int), evp cs x - evp cs r = (x - r) * evp (dvp cs r) x
  | [], x, r => by simp [evp, dvp]
  | [c], x, r => by simp [evp, dvp]
  | c :: d :: cs, x, r => by
    have ih := evp_dvp (d :: cs) x r
    show c + x * evp (d :: cs) x - (c + r * evp (d :: cs) r) = (x - r) * (evp (d :: cs) r + x * evp (dvp (d :: cs) r) x)
    generalize evp (d :: cs) x = u at *
    generalize evp (d :: cs) r = v at *
    generalize evp (dvp (d :: cs) r) x = w at *
    have : u = v + (x - r) * w := by omega
    subst this
    grind
theorem dvp_len : ∀ (cs : List Int) (r : Int), (dvp cs r).length = cs.length - 1
  | [], r => rfl
  | [c], r => rfl
  | c :: d :: cs, r => by
    have ih := dvp_len (d :: cs) r
    simp only [dvp, List.length_cons] at *; omega
theorem dvp_top : ∀ (cs : List Int) (r : Int), 2 ≤ cs.length → cs.getLast? = some 1 → (dvp cs r).getLast? = some 1
  | [], r, h, _ => by simp at h
  | [c], r, h, _ => by simp at h
  | [c, d], r, _, h => by
    have : d = 1 := by simpa using h
    subst this
    simp [dvp, evp]
  | c :: d :: e :: cs, r, _, h => by
    have ih := dvp_top (d :: e :: cs) r (by simp) (by simpa using h)
    rw [dvp]
    have hn : dvp (d :: e :: cs) r ≠ [] := by simp [dvp]
    cases hq : dvp (d :: e :: cs) r with
    | nil => exact absurd hq hn
    | cons y ys => rw [hq] at ih; rw [List.getLast?_cons_cons]; exact ih
theorem roots_le {p : Nat} (h : IsP p) : ∀ (n : Nat) (cs : List Int), cs.length = n + 1 → cs.getLast? = some 1 → ∀ rs : List Int, rs.Pairwise (fun x y => ¬ (p : Int) ∣ y - x) → (∀ r ∈ rs, (p : Int) ∣ evp cs r) → rs.length ≤ n := by
  intro n
  induction n with
  | zero =>
    intro cs hl ht rs hp hr
    cases rs with
    | nil => exact Nat.le_refl 0
    | cons r rs =>
      match cs, hl with
      | [c], _ =>
        have : c = 1 := by simpa using ht
        subst this
        have d := hr r List.mem_cons_self
        have e : evp [1] r = 1 := by simp [evp]
        rw [e] at d
        have := Int.le_of_dvd (by decide) d
        have := h.1
        omega
  | succ n ih =>
    intro cs hl ht rs hp hr
    cases rs with
    | nil => exact Nat.zero_le _
    | cons r rs =>
      obtain ⟨h1, h2⟩ := List.pairwise_cons.mp hp
      have q := ih (dvp cs r) (by rw [dvp_len]; omega) (dvp_top cs r (by omega) ht) rs h2 fun s hs => by
        have d : (p : Int) ∣ evp cs s - evp cs r := Int.dvd_sub (hr s (List.mem_cons_of_mem _ hs)) (hr r List.mem_cons_self)
        rw [evp_dvp] at d
        exact (h.dvd_mulI d).resolve_left (h1 s hs)
      rw [List.length_cons]; omega
theorem evp_pow : ∀ (k : Nat) (x : Int), evp (List.replicate k 0 ++ [1]) x = x ^ k
  | 0, x => by simp [evp]
  | k + 1, x => by
    rw [List.replicate_succ, List.cons_append, evp, evp_pow k x, Int.pow_succ]; grind
/-- a number whose power is not 1 -/
theorem non_root {p : Nat} (h : IsP p) {k : Nat} (k0 : 0 < k) (hk : k < p - 1) : ∃ z : Nat, 1 ≤ z ∧ z < p ∧ (z : Int) ^ k % p ≠ 1 := by
  refine Classical.byContradiction fun c => ?_
  have all : ∀ z : Nat, 1 ≤ z → z < p → (z : Int) ^ k % p = 1 := fun z h1 h2 => Classical.byContradiction fun e => c ⟨z, h1, h2, e⟩
  have q := roots_le h k (-1 :: (List.replicate (k - 1) 0 ++ [1])) (by simp; omega) (by
    cases hq : (List.replicate (k - 1) 0 ++ [(1 : Int)]) with
    | nil => simp at hq
    | cons y ys => rw [List.getLast?_cons_cons, ← hq]; simp) ((List.range' 1 (p - 1)).map fun (z : Nat) => (z : Int)) (by
      refine List.pairwise_map.mpr (List.Pairwise.imp_of_mem (fun {x y} hx hy q d => ?_) (List.nodup_range' (s := 1) (n := p - 1)))
      have hx := List.mem_range'_1.mp hx
      have hy := List.mem_range'_1.mp hy
      have := Int.eq_zero_of_dvd_of_natAbs_lt_natAbs d (by omega)
      exact q (by omega)) (fun r hr => by
      obtain ⟨z, hz, rfl⟩ := List.mem_map.mp hr
      have hz := List.mem_range'_1.mp hz
      have e := all z hz.1 (by omega)
      have o : (1 : Int) % p = 1 := Int.emod_eq_of_lt (by decide) (by have := h.1; omega)
      have d := em_dvd (p := p) (x := (z : Int) ^ k) (y := 1) (by rw [e, o])
      show (p : Int) ∣ -1 + (z : Int) * evp (List.replicate (k - 1) 0 ++ [1]) z
      rw [evp_pow]
      have ek : (z : Int) * (z : Int) ^ (k - 1) = (z : Int) ^ k := by
        rw [Int.mul_comm, ← Int.pow_succ]; congr 1; omega
      rw [ek, show (-1 : Int) + (z : Int) ^ k = (z : Int) ^ k - 1 by omega]
      exact d)
  rw [List.length_map, List.length_range'] at q
  omega
/-- half the exponent: 1 or -1 -/
theorem half_pow {p : Nat} (h : IsP p) (ho : p % 2 = 1) {a : Int} (ha : ¬ (p : Int) ∣ a) : a ^ ((p - 1) / 2) % p = 1 ∨ a ^ ((p - 1) / 2) % p = p - 1 := by
  refine sq_one h ?_
  rw [← Int.pow_add, show (p - 1) / 2 + (p - 1) / 2 = p - 1 by omega]
  exact fermatI h ha
/-! ### the twos of a number -/
theorem low_and (o t : Nat) : (((2 * o + 1) * 2 ^ t) &&& ((2 * o + 1) * 2 ^ t - 1)) = 2 * o * 2 ^ t := by
  induction t with
  | zero =>
    rw [Nat.pow_zero, Nat.mul_one, Nat.mul_one, Nat.add_sub_cancel]
    have e1 := @Nat.and_div_two (2 * o + 1) (2 * o)
    have e2 := @Nat.and_mod_two_eq_one (2 * o + 1) (2 * o)
    rw [show (2 * o + 1) / 2 = o by omega, show 2 * o / 2 = o by omega, Nat.and_self] at e1
    omega
  | succ t ih =>
    have hp := Nat.two_pow_pos t
    have hm : 0 < (2 * o + 1) * 2 ^ t := Nat.mul_pos (by omega) hp
    have ep : (2 * o + 1) * 2 ^ (t + 1) = 2 * ((2 * o + 1) * 2 ^ t) := by rw [Nat.pow_succ]; ac_rfl
    have eq : 2 * o * 2 ^ (t + 1) = 2 * (2 * o * 2 ^ t) := by rw [Nat.pow_succ]; ac_rfl
    rw [ep, eq]
    generalize (2 * o + 1) * 2 ^ t = m at *
    have e1 := @Nat.and_div_two (2 * m) (2 * m - 1)
    have e2 := @Nat.and_mod_two_eq_one (2 * m) (2 * m - 1)
    rw [show 2 * m / 2 = m by omega, show (2 * m - 1) / 2 = m - 1 by omega, ih] at e1
    omega
theorem odd_part : ∀ n : Nat, 0 < n → ∃ o t, n = (2 * o + 1) * 2 ^ t := by
  intro n
  induction n using Nat.strongRecOn with
  | ind n ih =>
    intro h
    by_cases e : n % 2 = 1
    · exact ⟨n / 2, 0, by rw [Nat.pow_zero]; omega⟩
    · obtain ⟨o, t, q⟩ := ih (n / 2) (by omega) (by omega)
      exact ⟨o, t + 1, by rw [Nat.pow_succ, ← Nat.mul_assoc, ← q]; omega⟩
end Mi
set_option maxHeartbeats 1000000
namespace Mi
/-! ### residues as a ring -/
def zr (p : Nat) (x y : Int) : Prop := x % p = y % p
def Zp (p : Nat) : Type := Quot (zr p)
def zm (p : Nat) (x : Int) : Zp p := Quot.mk _ x
theorem zr_iff {p : Nat} {x y : Int} : zr p x y ↔ (p : Int) ∣ x - y := ⟨fun h => em_dvd h, fun h => em_of_dvd h⟩
section
variable {p : Nat}
def zadd : Zp p → Zp p → Zp p := Quot.lift (fun x => Quot.lift (fun y => zm p (x + y)) fun a b h => Quot.sound (by
  rw [zr_iff] at h ⊢; rw [show x + a - (x + b) = a - b by omega]; exact h)) fun a b h => by
  funext y
  induction y using Quot.ind
  refine Quot.sound ?_
  rw [zr_iff] at h ⊢
  rename_i y
  rw [show a + y - (b + y) = a - b by omega]; exact h
def zmul : Zp p → Zp p → Zp p := Quot.lift (fun x => Quot.lift (fun y => zm p (x * y)) fun a b h => Quot.sound (em_mul rfl h)) fun a b h => by
  funext y
  induction y using Quot.ind
  exact Quot.sound (em_mul h rfl)
def zneg : Zp p → Zp p := Quot.lift (fun x => zm p (-x)) fun a b h => Quot.sound (by
  rw [zr_iff] at h ⊢
  rw [show -a - -b = -(a - b) by omega]; exact Int.dvd_neg.mpr h)
instance : Add (Zp p) := ⟨zadd⟩
instance : Mul (Zp p) := ⟨zmul⟩
instance : Neg (Zp p) := ⟨zneg⟩
instance : Sub (Zp p) := ⟨fun x y => x + -y⟩
instance : NatCast (Zp p) := ⟨fun n => zm p (n : Int)⟩
instance : IntCast (Zp p) := ⟨fun n => zm p n⟩
instance (n : Nat) : OfNat (Zp p) n := ⟨zm p (n : Int)⟩
def zpow (x : Zp p) : Nat → Zp p
  | 0 => 1
  | n + 1 => zpow x n * x
instance : HPow (Zp p) Nat (Zp p) := ⟨zpow⟩
instance : SMul Nat (Zp p) := ⟨fun n x => (n : Zp p) * x⟩
instance : SMul Int (Zp p) := ⟨fun n x => (n : Zp p) * x⟩
theorem zm_add (x y : Int) : zm p (x + y) = zm p x + zm p y := rfl
theorem zm_mul (x y : Int) : zm p (x * y) = zm p x * zm p y := rfl
theorem zm_neg (x : Int) : zm p (-x) = -zm p x := rfl
theorem zm_sub (x y : Int) : zm p (x - y) = zm p x - zm p y := by
  rw [Int.sub_eq_add_neg]; rfl
theorem zm_eq {x y : Int} : zm p x = zm p y ↔ x % p = y % p := by
  refine ⟨fun h => ?_, fun h => Quot.sound h⟩
  have : ∀ z : Zp p, zm p x = z → Quot.lift (fun y => x % p = y % p) (fun a b h => by simp only [show a % (p : Int) = b % p from h]) z := by
    intro z e; subst e; rfl
  exact this _ h
theorem zm_num (n : Nat) : zm p (OfNat.ofNat n : Int) = (OfNat.ofNat n : Zp p) := rfl
theorem zm_nat (n : Nat) : zm p (n : Int) = (OfNat.ofNat n : Zp p) := rfl
theorem zm_mod (x : Int) : zm p (x % p) = zm p x := zm_eq.mpr (em_em _ _)
instance : Lean.Grind.CommRing (Zp p) where
  add_zero := fun a => Quot.inductionOn a (fun x => congrArg (zm p) (Int.add_zero x))
  add_comm := fun a b => Quot.inductionOn a (fun x => Quot.inductionOn b (fun y => congrArg (zm p) (Int.add_comm x y)))
  add_assoc := fun a b c => Quot.inductionOn a (fun x => Quot.inductionOn b (fun y => Quot.inductionOn c (fun z => congrArg (zm p) (Int.add_assoc x y z))))
  mul_assoc := fun a b c => Quot.inductionOn a (fun x => Quot.inductionOn b (fun y => Quot.inductionOn c (fun z => congrArg (zm p) (Int.mul_assoc x y z))))
  mul_one := fun a => Quot.inductionOn a (fun x => congrArg (zm p) (Int.mul_one x))
  one_mul := fun a => Quot.inductionOn a (fun x => congrArg (zm p) (Int.one_mul x))
  left_distrib := fun a b c => Quot.inductionOn a (fun x => Quot.inductionOn b (fun y => Quot.inductionOn c (fun z => congrArg (zm p) (Int.mul_add x y z))))
  right_distrib := fun a b c => Quot.inductionOn a (fun x => Quot.inductionOn b (fun y => Quot.inductionOn c (fun z => congrArg (zm p) (Int.add_mul x y z))))
  zero_mul := fun a => Quot.inductionOn a (fun x => congrArg (zm p) (Int.zero_mul x))
  mul_zero := fun a => Quot.inductionOn a (fun x => congrArg (zm p) (Int.mul_zero x))
  pow_zero := fun a => rfl
  pow_succ := fun a n => rfl
  ofNat_succ := fun n => rfl
  ofNat_eq_natCast := fun n => rfl
  nsmul_eq_natCast_mul := fun n a => rfl
  neg_add_cancel := fun a => Quot.inductionOn a (fun x => congrArg (zm p) (Int.add_left_neg x))
  sub_eq_add_neg := fun a b => rfl
  neg_zsmul := fun i a => Quot.inductionOn a (fun x => congrArg (zm p) (Int.neg_mul i x))
  zsmul_natCast_eq_nsmul := fun n a => rfl
  intCast_ofNat := fun n => rfl
  intCast_neg := fun i => rfl
  mul_comm := fun a b => Quot.inductionOn a (fun x => Quot.inductionOn b (fun y => congrArg (zm p) (Int.mul_comm x y)))
theorem zm_zero {x : Int} : zm p x = 0 ↔ x % p = 0 := by
  have : zm p x = zm p 0 ↔ _ := zm_eq
  rw [Int.zero_emod] at this
  exact this
theorem zm_pow (x : Int) : ∀ n : Nat, zm p (x ^ n) = zm p x ^ n
  | 0 => by rw [Int.pow_zero]; rfl
  | n + 1 => by
    rw [Int.pow_succ, zm_mul, zm_pow x n]; rfl
theorem zm_dvd {x : Int} : zm p x = 0 ↔ (p : Int) ∣ x := zm_zero.trans ⟨Int.dvd_of_emod_eq_zero, Int.emod_eq_zero_of_dvd⟩
theorem z_dom (h : IsP p) {x y : Zp p} (e : x * y = 0) : x = 0 ∨ y = 0 := by
  revert e
  refine Quot.inductionOn x (fun x => ?_)
  refine Quot.inductionOn y (fun y => ?_)
  intro e
  rcases h.dvd_mulI (zm_dvd.mp e) with q | q
  · exact .inl (zm_dvd.mpr q)
  · exact .inr (zm_dvd.mpr q)
theorem z_cancel (h : IsP p) {x y : Zp p} (hx : x ≠ 0) (e : x * y = 0) : y = 0 := (z_dom h e).resolve_left hx
theorem z_mul_ne (h : IsP p) {x y : Zp p} (hx : x ≠ 0) (hy : y ≠ 0) : x * y ≠ 0 := fun e => hy (z_cancel h hx e)
theorem z_inv0 (h : IsP p) (x : Int) (hx : zm p x ≠ 0) : zm p x ^ (p - 2) * zm p x = 1 := by
  have h2 := h.1
  have f := fermatI h (a := x) fun d => hx (zm_dvd.mpr d)
  rw [← zm_pow, ← zm_mul, ← Int.pow_succ, show (p - 2).succ = p - 1 by omega]
  exact (show zm p (x ^ (p - 1)) = zm p 1 from zm_eq.mpr (by rw [f, Int.emod_eq_of_lt (by decide) (by omega)]))
theorem z_inv (h : IsP p) {x : Zp p} : x ≠ 0 → x ^ (p - 2) * x = 1 := Quot.inductionOn x fun x hx => z_inv0 h x hx
theorem z_ne_num (n : Nat) (h0 : 0 < n) (h1 : n < p) : (OfNat.ofNat n : Zp p) ≠ 0 := by
  intro e
  have := zm_zero.mp (show zm p (n : Int) = 0 from e)
  rw [Int.emod_eq_of_lt (by omega) (by omega)] at this
  omega
/-- residues are equal if their classes are -/
theorem res_eq {x y : Int} (hx0 : 0 ≤ x) (hx1 : x < p) (hy0 : 0 ≤ y) (hy1 : y < p) (h : zm p x = zm p y) : x = y := by
  have := zm_eq.mp h
  rwa [Int.emod_eq_of_lt hx0 hx1, Int.emod_eq_of_lt hy0 hy1] at this
end
theorem z_test {p : Nat} (x y : Zp p) (h : x * x = y) : (x + 1) ^ 2 - 2 * x - 1 = y := by grind
end Mi
namespace Mi
theorem z_clos {p : Nat} (x1 y1 x2 y2 a b l i : Zp p) (h1 : y1*y1 = x1*x1*x1 + a*x1 + b) (h2 : y2*y2 = x2*x2*x2 + a*x2 + b) (hi : i*(x2-x1) = 1) (hl : l*(x2-x1) = (y2-y1))  : (l*(x1-(l*l - x1 - x2)) - y1)*(l*(x1-(l*l - x1 - x2)) - y1) = (l*l - x1 - x2)*(l*l - x1 - x2)*(l*l - x1 - x2) + a*(l*l - x1 - x2) + b := by
  have q : x1*x1 + x1*x2 + x2*x2 + a = l*(y1+y2) := by
    have : (x2-x1)*(x1*x1 + x1*x2 + x2*x2 + a - l*(y1+y2)) = 0 := by grind
    grind
  have e : y2 = y1 + l*(x2-x1) := by grind
  subst e
  grind
end Mi
set_option maxHeartbeats 1000000
namespace Mi
open PySem PySem.Spec L2
/-! ### sizes, found by themselves -/
class Bd (x : Int) (n : outParam Nat) : Prop where
  lt : x.natAbs < 2 ^ n
class Pb (p : Nat) : Prop where
  pos : 0 < p
  lt : p < 2 ^ 256
theorem Bd.up {x : Int} {m n : Nat} (h : x.natAbs < 2 ^ m) (e : m ≤ n) : x.natAbs < 2 ^ n := Nat.lt_of_lt_of_le h (Nat.pow_le_pow_right (by decide) e)
instance bd_mul {x y : Int} {a b : Nat} [h1 : Bd x a] [h2 : Bd y b] : Bd (x * y) (a + b) := ⟨by rw [Int.natAbs_mul]; exact pow_add_lt h1.lt h2.lt⟩
theorem two_sum {u v a b : Nat} (h1 : u < 2 ^ a) (h2 : v < 2 ^ b) : u + v < 2 ^ (max a b + 1) := by
  have := Nat.lt_of_lt_of_le h1 (Nat.pow_le_pow_right (show 0 < 2 by decide) (Nat.le_max_left a b))
  have := Nat.lt_of_lt_of_le h2 (Nat.pow_le_pow_right (show 0 < 2 by decide) (Nat.le_max_right a b))
  rw [Nat.pow_succ]; omega
instance bd_add {x y : Int} {a b : Nat} [h1 : Bd x a] [h2 : Bd y b] : Bd (x + y) (max a b + 1) := ⟨Nat.lt_of_le_of_lt (Int.natAbs_add_le x y) (two_sum h1.lt h2.lt)⟩
instance bd_sub {x y : Int} {a b : Nat} [h1 : Bd x a] [h2 : Bd y b] : Bd (x - y) (max a b + 1) := ⟨Nat.lt_of_le_of_lt (Int.natAbs_sub_le x y) (two_sum h1.lt h2.lt)⟩
instance bd_neg {x : Int} {a : Nat} [h1 : Bd x a] : Bd (-x) a := ⟨by rw [Int.natAbs_neg]; exact h1.lt⟩
instance bd_pow {x : Int} {a k : Nat} [h1 : Bd x a] : Bd (x ^ k) (a * k + 1) := ⟨by
  rw [Int.natAbs_pow]
  have : x.natAbs ^ k ≤ (2 ^ a) ^ k := Nat.pow_le_pow_left (Nat.le_of_lt h1.lt) k
  rw [← Nat.pow_mul] at this
  have : 2 ^ (a * k) < 2 ^ (a * k + 1) := Nat.pow_lt_pow_right (by decide) (by omega)
  omega⟩
instance : Bd (0 : Int) 8 := ⟨by decide⟩
instance : Bd (1 : Int) 8 := ⟨by decide⟩
instance : Bd (2 : Int) 8 := ⟨by decide⟩
instance : Bd (3 : Int) 8 := ⟨by decide⟩
instance : Bd (4 : Int) 8 := ⟨by decide⟩
instance : Bd (5 : Int) 8 := ⟨by decide⟩
instance : Bd (6 : Int) 8 := ⟨by decide⟩
instance : Bd (7 : Int) 8 := ⟨by decide⟩
instance : Bd (8 : Int) 8 := ⟨by decide⟩
instance : Bd (9 : Int) 8 := ⟨by decide⟩
instance : Bd (12 : Int) 8 := ⟨by decide⟩
instance : Bd (13 : Int) 8 := ⟨by decide⟩
instance : Bd (16 : Int) 8 := ⟨by decide⟩
instance : Bd (27 : Int) 8 := ⟨by decide⟩
instance : Bd (2147483648 : Int) 70 := ⟨by decide +kernel⟩
instance : Bd (4294967296 : Int) 70 := ⟨by decide +kernel⟩
instance : Bd (2305843009213693952 : Int) 70 := ⟨by decide +kernel⟩
instance : Bd (9223372036854775808 : Int) 70 := ⟨by decide +kernel⟩
instance : Bd (18446744073709551616 : Int) 70 := ⟨by decide +kernel⟩
instance : Bd (6277101735386680763835789423207666416102355444464034512896 : Int) 200 := ⟨by decide +kernel⟩
instance bd_p {p : Nat} [h : Pb p] : Bd (p : Int) 256 := ⟨by rw [Int.natAbs_natCast]; exact h.lt⟩
instance bd_mod {p : Nat} {x : Int} [h : Pb p] : Bd (x % (p : Int)) 256 := ⟨by
  have := h.pos; have := h.lt
  have := Int.emod_nonneg x (show (p : Int) ≠ 0 by omega)
  have := Int.emod_lt_of_pos x (show (0 : Int) < (p : Int) by omega)
  omega⟩
theorem need_bd {α : Type} {x y : Int} {a b : Nat} {m : Res α} [h1 : Bd x a] [h2 : Bd y b] (h : (decide (a + b ≤ 134217728)) = true) : Res.need (CMulX x y) m = m := Res.need_pos (cmulx h1.lt h2.lt (of_decide_eq_true h))
theorem need_pw2 {α : Type} {x : Int} {a : Nat} {m : Res α} [h1 : Bd x a] (h : (decide (a * 2 ≤ 134217728)) = true) : Res.need (CPowX x 2) m = m := Res.need_pos ⟨by decide, by
  have := le_ibits h1.lt
  have h := of_decide_eq_true h
  show ((Builtin.Int.intBits x : Nat) : Int) * 2 ≤ 134217728
  omega⟩
theorem need_pw3 {α : Type} {x : Int} {a : Nat} {m : Res α} [h1 : Bd x a] (h : (decide (a * 3 ≤ 134217728)) = true) : Res.need (CPowX x 3) m = m := Res.need_pos ⟨by decide, by
  have := le_ibits h1.lt
  have h := of_decide_eq_true h
  show ((Builtin.Int.intBits x : Nat) : Int) * 3 ≤ 134217728
  omega⟩
theorem need_pw4 {α : Type} {x : Int} {a : Nat} {m : Res α} [h1 : Bd x a] (h : (decide (a * 4 ≤ 134217728)) = true) : Res.need (CPowX x 4) m = m := Res.need_pos ⟨by decide, by
  have := le_ibits h1.lt
  have h := of_decide_eq_true h
  show ((Builtin.Int.intBits x : Nat) : Int) * 4 ≤ 134217728
  omega⟩
theorem need_pw6 {α : Type} {x : Int} {a : Nat} {m : Res α} [h1 : Bd x a] (h : (decide (a * 6 ≤ 134217728)) = true) : Res.need (CPowX x 6) m = m := Res.need_pos ⟨by decide, by
  have := le_ibits h1.lt
  have h := of_decide_eq_true h
  show ((Builtin.Int.intBits x : Nat) : Int) * 6 ≤ 134217728
  omega⟩
theorem need_p {α : Type} {p : Nat} {m : Res α} [h : Pb p] : Res.need (0 < (p : Int)) m = m := Res.need_pos (by have := h.pos; omega)
theorem need_true {α : Type} {m : Res α} : Res.need True m = m := Res.need_pos trivial
theorem tn2 : (2 : Int).toNat = 2 := rfl
theorem tn3 : (3 : Int).toNat = 3 := rfl
theorem tn4 : (4 : Int).toNat = 4 := rfl
theorem tn6 : (6 : Int).toNat = 6 := rfl
theorem bd_test {α : Type} {p : Nat} [Pb p] (x y : Int) [Bd x 256] [Bd y 256] (m : Res α) : Res.need (CMulX (x * y - 27 * x ^ 3) (y + (x * x * x) % (p : Int))) (Res.need (0 < (p : Int)) (Res.need (CPowX (x * y) 3) m)) = m := by
  simp (decide := true) only [need_bd, need_p, need_pw3]
end Mi
set_option maxHeartbeats 1000000
namespace Mi
/-! ### residues of a prime as a field -/
class Prm (p : Nat) : Prop where
  pr : IsP p
section
variable {p : Nat}
def zv : Zp p → Int := Quot.lift (fun x => x % (p : Int)) fun a b h => h
theorem zv_zm (x : Int) : zv (zm p x) = x % p := rfl
theorem zm_zv (x : Zp p) : zm p (zv x) = x := Quot.inductionOn x fun x => zm_mod x
theorem zv_ge [P : Prm p] (x : Zp p) : 0 ≤ zv x := Quot.inductionOn x fun x => Int.emod_nonneg _ (by have := P.pr.1; omega)
theorem zv_lt [P : Prm p] (x : Zp p) : zv x < p := Quot.inductionOn x fun x => Int.emod_lt_of_pos _ (by have := P.pr.1; omega)
theorem zv_inj {x y : Zp p} (h : zv x = zv y) : x = y := by rw [← zm_zv x, ← zm_zv y, h]
theorem zv_of {x : Int} (h0 : 0 ≤ x) (h1 : x < p) : zv (zm p x) = x := by rw [zv_zm, Int.emod_eq_of_lt h0 h1]
theorem zpow_zero' (n : Nat) (h : 0 < n) : (0 : Zp p) ^ n = 0 := by
  cases n with
  | zero => omega
  | succ n => show (0 : Zp p) ^ n * 0 = 0; grind
open Classical in
noncomputable def zinv (x : Zp p) : Zp p := if x = 0 then 0 else x ^ (p - 2)
noncomputable instance : Inv (Zp p) := ⟨zinv⟩
noncomputable instance : Div (Zp p) := ⟨fun x y => x * y⁻¹⟩
noncomputable def zzpow (x : Zp p) : Int → Zp p
  | .ofNat n => x ^ n
  | .negSucc n => (x ^ (n + 1))⁻¹
noncomputable instance : HPow (Zp p) Int (Zp p) := ⟨zzpow⟩
theorem z_inv_zero : (0 : Zp p)⁻¹ = 0 := by show zinv 0 = 0; unfold zinv; rw [if_pos rfl]
theorem z_one_inv [P : Prm p] : (1 : Zp p)⁻¹ = 1 := by
  show zinv 1 = 1
  unfold zinv
  split
  · rename_i h; exact h.symm
  · have : ∀ n : Nat, (1 : Zp p) ^ n = 1 := by
      intro n
      induction n with
      | zero => rfl
      | succ n ih => show (1 : Zp p) ^ n * 1 = 1; rw [ih]; grind
    exact this _
theorem z_mul_inv [P : Prm p] {x : Zp p} (h : x ≠ 0) : x * x⁻¹ = 1 := by
  show x * zinv x = 1
  unfold zinv
  rw [if_neg h]
  have := z_inv P.pr h
  grind
theorem z_inv_inv [P : Prm p] (x : Zp p) : x⁻¹⁻¹ = x := by
  by_cases h : x = 0
  · subst h; rw [z_inv_zero, z_inv_zero]
  · have a := z_mul_inv h
    have h' : x⁻¹ ≠ 0 := by
      intro e
      rw [e] at a
      have : (1 : Zp p) = 0 := by grind
      exact z_ne_num 1 (by decide) (by have := P.pr.1; omega) this
    have b := z_mul_inv h'
    have : x * (x⁻¹ * x⁻¹⁻¹) = x := by rw [b]; grind
    have t : x * (x⁻¹ * x⁻¹⁻¹) = (x * x⁻¹) * x⁻¹⁻¹ := by grind
    rw [t, a] at this
    grind
noncomputable instance [P : Prm p] : Lean.Grind.Field (Zp p) where
  toCommRing := inferInstance
  div_eq_mul_inv := fun a b => rfl
  zero_ne_one := fun h => z_ne_num (p := p) 1 (by decide) (by have := P.pr.1; omega) h.symm
  inv_zero := z_inv_zero
  mul_inv_cancel := fun h => z_mul_inv h
  zpow_zero := fun a => rfl
  zpow_succ := fun a n => rfl
  zpow_neg := fun a n => by
    cases n with
    | ofNat n =>
      cases n with
      | zero => exact z_one_inv.symm
      | succ n => rfl
    | negSucc n => exact (z_inv_inv _).symm
end
/-! ### multiples in a commutative group -/
section
open Lean.Grind
variable {M : Type} [AddCommGroup M]
def nsm (n : Nat) (a : M) : M := match n with
  | 0 => 0
  | n + 1 => nsm n a + a
def zsm (n : Int) (a : M) : M := match n with
  | .ofNat n => nsm n a
  | .negSucc n => -(nsm (n + 1) a)
theorem g_add_comm (a b : M) : a + b = b + a := AddCommMonoid.add_comm a b
theorem g_add_assoc (a b c : M) : a + b + c = a + (b + c) := AddCommMonoid.add_assoc a b c
theorem g_add_zero (a : M) : a + 0 = a := AddCommMonoid.add_zero a
theorem g_zero_add (a : M) : 0 + a = a := by rw [g_add_comm]; exact g_add_zero a
theorem g_neg_add (a : M) : -a + a = 0 := AddCommGroup.neg_add_cancel a
theorem g_add_neg (a : M) : a + -a = 0 := by rw [g_add_comm]; exact g_neg_add a
theorem g_cancel_r {a b c : M} (h : a + c = b + c) : a = b := by
  have := congrArg (fun z => z + -c) h
  simp only [g_add_assoc, g_add_neg, g_add_zero] at this
  exact this
theorem g_cancel_l {a b c : M} (h : c + a = c + b) : a = b := g_cancel_r (c := c) (by rw [g_add_comm a, g_add_comm b]; exact h)
theorem g_neg_eq {a b : M} (h : a + b = 0) : b = -a := g_cancel_l (c := a) (by rw [h, g_add_neg])
theorem g_neg_neg (a : M) : - -a = a := (g_neg_eq (g_neg_add a)).symm
theorem g_neg_addd (a b : M) : -(a + b) = -a + -b := (g_neg_eq (by
  rw [g_add_assoc, g_add_comm (-a), ← g_add_assoc b, g_add_neg, g_zero_add, g_add_neg])).symm
theorem g_neg_zero : -(0 : M) = 0 := (g_neg_eq (g_add_zero 0)).symm
theorem g_sub (a b : M) : a - b = a + -b := AddCommGroup.sub_eq_add_neg a b
theorem nsm_zero (a : M) : nsm 0 a = 0 := rfl
theorem nsm_succ (n : Nat) (a : M) : nsm (n + 1) a = nsm n a + a := rfl
theorem nsm_one (a : M) : nsm 1 a = a := g_zero_add a
theorem nsm_add (m n : Nat) (a : M) : nsm (m + n) a = nsm m a + nsm n a := by
  induction n with
  | zero => rw [Nat.add_zero, nsm_zero, g_add_zero]
  | succ n ih => rw [← Nat.add_assoc, nsm_succ, nsm_succ, ih, g_add_assoc]
theorem nsm_zero' (n : Nat) : nsm n (0 : M) = 0 := by
  induction n with
  | zero => rfl
  | succ n ih => rw [nsm_succ, ih, g_add_zero]
theorem nsm_addd (n : Nat) (a b : M) : nsm n (a + b) = nsm n a + nsm n b := by
  induction n with
  | zero => rw [nsm_zero, nsm_zero, nsm_zero, g_add_zero]
  | succ n ih => rw [nsm_succ, nsm_succ, nsm_succ, ih, g_add_assoc, g_add_assoc, ← g_add_assoc (nsm n b), ← g_add_assoc a, g_add_comm a (nsm n b)]
theorem nsm_mul (m n : Nat) (a : M) : nsm (m * n) a = nsm m (nsm n a) := by
  induction m with
  | zero => rw [Nat.zero_mul]; rfl
  | succ m ih => rw [Nat.succ_mul, nsm_add, ih, nsm_succ]
theorem nsm_neg (n : Nat) (a : M) : nsm n (-a) = -(nsm n a) := g_neg_eq (by rw [← nsm_addd, g_add_neg, nsm_zero'])
theorem zsm_nat (n : Nat) (a : M) : zsm (n : Int) a = nsm n a := rfl
theorem zsm_neg_nat (n : Nat) (a : M) : zsm (-(n : Int)) a = -(nsm n a) := by
  cases n with
  | zero => show nsm 0 a = -(nsm 0 a); rw [nsm_zero, g_neg_zero]
  | succ n => rfl
theorem zsm_neg (n : Int) (a : M) : zsm (-n) a = -(zsm n a) := by
  rcases Int.eq_nat_or_neg n with ⟨k, rfl | rfl⟩
  · rw [zsm_neg_nat, zsm_nat]
  · rw [Int.neg_neg, zsm_neg_nat, zsm_nat, g_neg_neg]
theorem zsm_negp (n : Int) (a : M) : zsm n (-a) = -(zsm n a) := by
  rcases Int.eq_nat_or_neg n with ⟨k, rfl | rfl⟩
  · rw [zsm_nat, zsm_nat, nsm_neg]
  · rw [zsm_neg_nat, zsm_neg_nat, nsm_neg]
theorem zsm_sub_nat (m n : Nat) (a : M) : zsm ((m : Int) - n) a = nsm m a + -(nsm n a) := by
  rcases Nat.le_total n m with h | h
  · obtain ⟨k, rfl⟩ := Nat.exists_eq_add_of_le h
    rw [show ((n + k : Nat) : Int) - n = (k : Int) by omega, zsm_nat, Nat.add_comm, nsm_add, g_add_assoc, g_add_neg, g_add_zero]
  · obtain ⟨k, rfl⟩ := Nat.exists_eq_add_of_le h
    rw [show (m : Int) - ((m + k : Nat) : Int) = -(k : Int) by omega, zsm_neg_nat, nsm_add, g_neg_addd, ← g_add_assoc, g_add_neg, g_zero_add]
theorem zsm_add (m n : Int) (a : M) : zsm (m + n) a = zsm m a + zsm n a := by
  rcases Int.eq_nat_or_neg m with ⟨k, rfl | rfl⟩ <;> rcases Int.eq_nat_or_neg n with ⟨l, rfl | rfl⟩
  · rw [← Int.natCast_add, zsm_nat, zsm_nat, zsm_nat, nsm_add]
  · rw [← Int.sub_eq_add_neg, zsm_sub_nat, zsm_nat, zsm_neg_nat]
  · rw [Int.add_comm, ← Int.sub_eq_add_neg, zsm_sub_nat, zsm_nat, zsm_neg_nat, g_add_comm]
  · rw [show -(k : Int) + -(l : Int) = -((k + l : Nat) : Int) by omega, zsm_neg_nat, zsm_neg_nat, zsm_neg_nat, nsm_add, g_neg_addd]
theorem zsm_addd (n : Int) (a b : M) : zsm n (a + b) = zsm n a + zsm n b := by
  rcases Int.eq_nat_or_neg n with ⟨k, rfl | rfl⟩
  · rw [zsm_nat, zsm_nat, zsm_nat, nsm_addd]
  · rw [zsm_neg_nat, zsm_neg_nat, zsm_neg_nat, nsm_addd, g_neg_addd]
theorem zsm_mul (m n : Int) (a : M) : zsm (m * n) a = zsm m (zsm n a) := by
  rcases Int.eq_nat_or_neg m with ⟨k, rfl | rfl⟩ <;> rcases Int.eq_nat_or_neg n with ⟨l, rfl | rfl⟩
  · rw [← Int.natCast_mul, zsm_nat, zsm_nat, zsm_nat, nsm_mul]
  · rw [Int.mul_neg, ← Int.natCast_mul, zsm_neg_nat, zsm_nat, zsm_neg_nat, nsm_neg, nsm_mul]
  · rw [Int.neg_mul, ← Int.natCast_mul, zsm_neg_nat, zsm_neg_nat, zsm_nat, nsm_mul]
  · rw [Int.neg_mul_neg, ← Int.natCast_mul, zsm_nat, zsm_neg_nat, zsm_neg_nat, nsm_neg, g_neg_neg, nsm_mul]
theorem zsm_zero (a : M) : zsm 0 a = 0 := rfl
theorem zsm_one (a : M) : zsm 1 a = a := nsm_one a
theorem zsm_zero' (n : Int) : zsm n (0 : M) = 0 := by
  rcases Int.eq_nat_or_neg n with ⟨k, rfl | rfl⟩
  · rw [zsm_nat, nsm_zero']
  · rw [zsm_neg_nat, nsm_zero', g_neg_zero]
theorem zsm_two (a : M) : zsm 2 a = a + a := by
  show nsm 2 a = _
  rw [nsm_succ, nsm_one]
end
end Mi
set_option maxHeartbeats 4000000
namespace Mi
open Lean.Grind
section
variable {F : Type} [Field F]
/-! ### the sum of points of a short Weierstrass curve, over any field -/
abbrev Pt (F : Type) := Option (F × F)
def OnC {R : Type} [CommRing R] (a b : R) : Pt R → Prop
  | none => True
  | some (x, y) => y * y = x * x * x + a * x + b
def pneg {R : Type} [CommRing R] : Pt R → Pt R
  | none => none
  | some (x, y) => some (x, -y)
open Classical in
noncomputable def padd (a : F) : Pt F → Pt F → Pt F
  | none, q => q
  | some p, none => some p
  | some (x1, y1), some (x2, y2) =>
    if x1 = x2 ∧ y1 + y2 = 0 then none
    else
      let l := if x1 = x2 then (3 * x1 * x1 + a) * (2 * y1)⁻¹ else (y2 - y1) * (x2 - x1)⁻¹
      some (l * l - x1 - x2, l * (x1 - (l * l - x1 - x2)) - y1)
open Classical in
theorem padd_eq (a x1 y1 x2 y2 : F) : padd a (some (x1, y1)) (some (x2, y2)) = if x1 = x2 ∧ y1 + y2 = 0 then none
    else
      let l := if x1 = x2 then (3 * x1 * x1 + a) * (2 * y1)⁻¹ else (y2 - y1) * (x2 - x1)⁻¹
      some (l * l - x1 - x2, l * (x1 - (l * l - x1 - x2)) - y1) := rfl
/-- l is the slope of the line through both -/
def Slp (a x1 y1 x2 y2 l : F) : Prop := y2 - y1 = l * (x2 - x1) ∧ l * (y1 + y2) = x1 * x1 + x1 * x2 + x2 * x2 + a
theorem f_dom {x y : F} (h : x * y = 0) : x = 0 ∨ y = 0 := by
  by_cases hx : x = 0
  · exact .inl hx
  · refine .inr ?_
    have := Field.mul_inv_cancel hx
    grind
theorem f_cancel {x y : F} (hx : x ≠ 0) (h : x * y = 0) : y = 0 := (f_dom h).resolve_left hx
theorem slp_ex {a b x1 y1 x2 y2 : F} (h2 : (2 : F) ≠ 0) (o1 : OnC a b (some (x1, y1))) (o2 : OnC a b (some (x2, y2))) (hn : ¬ (x1 = x2 ∧ y1 + y2 = 0)) :
    ∃ l, Slp a x1 y1 x2 y2 l ∧ padd a (some (x1, y1)) (some (x2, y2)) = some (l * l - x1 - x2, l * (x1 - (l * l - x1 - x2)) - y1) := by
  have o1 : y1 * y1 = x1 * x1 * x1 + a * x1 + b := o1
  have o2 : y2 * y2 = x2 * x2 * x2 + a * x2 + b := o2
  by_cases hx : x1 = x2
  · subst hx
    have hs : y1 + y2 ≠ 0 := fun e => hn ⟨rfl, e⟩
    have hy : y1 = y2 := by
      have : (y1 + y2) * (y1 - y2) = 0 := by grind
      have := f_cancel hs this
      grind
    subst hy
    have h0 : 2 * y1 ≠ 0 := by grind
    have iv := Field.mul_inv_cancel h0
    refine ⟨(3 * x1 * x1 + a) * (2 * y1)⁻¹, ⟨by grind, by grind⟩, ?_⟩
    rw [padd_eq, if_neg hn, if_pos rfl]
  · have h0 : x2 - x1 ≠ 0 := by grind
    have iv := Field.mul_inv_cancel h0
    refine ⟨(y2 - y1) * (x2 - x1)⁻¹, ⟨by grind, ?_⟩, ?_⟩
    · have : (x2 - x1) * ((y2 - y1) * (x2 - x1)⁻¹ * (y1 + y2) - (x1 * x1 + x1 * x2 + x2 * x2 + a)) = 0 := by grind
      have := f_cancel h0 this
      grind
    · rw [padd_eq, if_neg hn, if_neg hx]
theorem slp_uniq {a b x1 y1 x2 y2 l m : F} (o1 : OnC a b (some (x1, y1))) (o2 : OnC a b (some (x2, y2))) (hn : ¬ (x1 = x2 ∧ y1 + y2 = 0)) (h1 : Slp a x1 y1 x2 y2 l) (h2 : Slp a x1 y1 x2 y2 m) : l = m := by
  obtain ⟨a1, a2⟩ := h1
  obtain ⟨b1, b2⟩ := h2
  by_cases hx : x1 = x2
  · have hs : y1 + y2 ≠ 0 := fun e => hn ⟨hx, e⟩
    have : (y1 + y2) * (l - m) = 0 := by grind
    have := f_cancel hs this
    grind
  · have h0 : x2 - x1 ≠ 0 := by grind
    have : (x2 - x1) * (l - m) = 0 := by grind
    have := f_cancel h0 this
    grind
theorem padd_slp {a b x1 y1 x2 y2 l : F} (h2 : (2 : F) ≠ 0) (o1 : OnC a b (some (x1, y1))) (o2 : OnC a b (some (x2, y2))) (hn : ¬ (x1 = x2 ∧ y1 + y2 = 0)) (h : Slp a x1 y1 x2 y2 l) :
    padd a (some (x1, y1)) (some (x2, y2)) = some (l * l - x1 - x2, l * (x1 - (l * l - x1 - x2)) - y1) := by
  obtain ⟨m, hm, e⟩ := slp_ex h2 o1 o2 hn
  have := slp_uniq o1 o2 hn h hm
  subst this
  exact e
theorem slp_on {a b x1 y1 x2 y2 l : F} (o1 : OnC a b (some (x1, y1))) (h : Slp a x1 y1 x2 y2 l) : OnC a b (some (l * l - x1 - x2, l * (x1 - (l * l - x1 - x2)) - y1)) := by
  have o1 : y1 * y1 = x1 * x1 * x1 + a * x1 + b := o1
  obtain ⟨a1, a2⟩ := h
  show (l * (x1 - (l * l - x1 - x2)) - y1) * (l * (x1 - (l * l - x1 - x2)) - y1) = (l * l - x1 - x2) * (l * l - x1 - x2) * (l * l - x1 - x2) + a * (l * l - x1 - x2) + b
  have e : y2 = y1 + l * (x2 - x1) := by grind
  subst e
  have ea : a = l * (y1 + (y1 + l * (x2 - x1))) - x1 * x1 - x1 * x2 - x2 * x2 := by grind
  subst ea
  grind
theorem on_neg' {a b : F} {P : Pt F} (h : OnC a b P) : OnC a b (pneg P) := by
  cases P with
  | none => exact trivial
  | some p =>
    obtain ⟨x, y⟩ := p
    have h : y * y = x * x * x + a * x + b := h
    show -y * -y = x * x * x + a * x + b
    grind
theorem pneg_pneg (P : Pt F) : pneg (pneg P) = P := by
  cases P with
  | none => rfl
  | some p =>
    obtain ⟨x, y⟩ := p
    show some (x, - -y) = some (x, y)
    rw [show - -y = y by grind]
theorem padd_zero (a : F) (P : Pt F) : padd a P none = P := by
  cases P <;> rfl
theorem zero_padd (a : F) (P : Pt F) : padd a none P = P := rfl
theorem padd_neg (a : F) (P : Pt F) : padd a P (pneg P) = none := by
  cases P with
  | none => rfl
  | some p =>
    obtain ⟨x, y⟩ := p
    show padd a (some (x, y)) (some (x, -y)) = none
    rw [padd_eq, if_pos ⟨rfl, by grind⟩]
theorem neg_padd (a : F) (P : Pt F) : padd a (pneg P) P = none := by
  have := padd_neg a (pneg P)
  rwa [pneg_pneg] at this
theorem padd_none {a : F} {P Q : Pt F} (h : padd a P Q = none) : Q = pneg P := by
  cases P with
  | none => exact h
  | some p =>
    cases Q with
    | none => cases h
    | some q =>
      obtain ⟨x1, y1⟩ := p
      obtain ⟨x2, y2⟩ := q
      rw [padd_eq] at h
      by_cases c : x1 = x2 ∧ y1 + y2 = 0
      · show some (x2, y2) = some (x1, -y1)
        rw [c.1, show y2 = -y1 by grind]
      · rw [if_neg c] at h
        cases h
theorem padd_on {a b : F} (h2 : (2 : F) ≠ 0) {P Q : Pt F} (hP : OnC a b P) (hQ : OnC a b Q) : OnC a b (padd a P Q) := by
  cases P with
  | none => exact hQ
  | some p =>
    cases Q with
    | none => exact hP
    | some q =>
      obtain ⟨x1, y1⟩ := p
      obtain ⟨x2, y2⟩ := q
      by_cases c : x1 = x2 ∧ y1 + y2 = 0
      · rw [padd_eq, if_pos c]; exact trivial
      · obtain ⟨l, s, e⟩ := slp_ex h2 hP hQ c
        rw [e]
        exact slp_on hP s
theorem slp_symm {a x1 y1 x2 y2 l : F} (h : Slp a x1 y1 x2 y2 l) : Slp a x2 y2 x1 y1 l := by
  obtain ⟨a1, a2⟩ := h
  exact ⟨by grind, by grind⟩
theorem padd_comm {a b : F} (h2 : (2 : F) ≠ 0) {P Q : Pt F} (hP : OnC a b P) (hQ : OnC a b Q) : padd a P Q = padd a Q P := by
  cases P with
  | none => exact (padd_zero a Q).symm
  | some p =>
    cases Q with
    | none => rfl
    | some q =>
      obtain ⟨x1, y1⟩ := p
      obtain ⟨x2, y2⟩ := q
      by_cases c : x1 = x2 ∧ y1 + y2 = 0
      · have c' : x2 = x1 ∧ y2 + y1 = 0 := ⟨c.1.symm, by have := c.2; grind⟩
        rw [padd_eq, padd_eq, if_pos c, if_pos c']
      · have c' : ¬ (x2 = x1 ∧ y2 + y1 = 0) := fun z => c ⟨z.1.symm, by have := z.2; grind⟩
        obtain ⟨l, s, e⟩ := slp_ex h2 hP hQ c
        rw [e, padd_slp h2 hQ hP c' (slp_symm s), show l * l - x2 - x1 = l * l - x1 - x2 by grind]
        have := s.1
        congr 2
        grind
theorem pneg_padd {a b : F} (h2 : (2 : F) ≠ 0) {P Q : Pt F} (hP : OnC a b P) (hQ : OnC a b Q) : pneg (padd a P Q) = padd a (pneg P) (pneg Q) := by
  cases P with
  | none => rfl
  | some p =>
    cases Q with
    | none => rfl
    | some q =>
      obtain ⟨x1, y1⟩ := p
      obtain ⟨x2, y2⟩ := q
      by_cases c : x1 = x2 ∧ y1 + y2 = 0
      · have c' : x1 = x2 ∧ -y1 + -y2 = 0 := ⟨c.1, by have := c.2; grind⟩
        show pneg (padd a (some (x1, y1)) (some (x2, y2))) = padd a (some (x1, -y1)) (some (x2, -y2))
        rw [padd_eq, padd_eq, if_pos c, if_pos c']; rfl
      · have c' : ¬ (x1 = x2 ∧ -y1 + -y2 = 0) := fun z => c ⟨z.1, by have := z.2; grind⟩
        obtain ⟨l, s, e⟩ := slp_ex h2 hP hQ c
        have s' : Slp a x1 (-y1) x2 (-y2) (-l) := ⟨by have := s.1; grind, by have := s.2; grind⟩
        have e' := padd_slp h2 (on_neg' hP) (on_neg' hQ) c' s'
        show pneg (padd a (some (x1, y1)) (some (x2, y2))) = padd a (some (x1, -y1)) (some (x2, -y2))
        rw [e, e', show -l * -l = l * l by grind]
        show some (_, _) = some (_, _)
        congr 2
        grind
/-- the curve has no double point -/
def NoSing {R : Type} [CommRing R] (a b : R) : Prop := 4 * a * a * a + 27 * b * b ≠ 0
theorem NoSing.ns {a b x : F} (h : NoSing a b) (o : OnC a b (some (x, 0))) (hd : 3 * x * x + a = 0) : False := by
  have o : (0 : F) * 0 = x * x * x + a * x + b := o
  apply h
  have ea : a = -(3 * x * x) := by grind
  have eb : b = 2 * x * x * x := by grind
  subst ea eb
  grind
theorem padd_cancel {a b : F} (h2 : (2 : F) ≠ 0) (N : NoSing a b) {P Q : Pt F} (hP : OnC a b P) (hQ : OnC a b Q) : padd a (padd a P Q) (pneg Q) = P := by
  cases P with
  | none => exact padd_neg a Q
  | some p =>
    cases Q with
    | none => rfl
    | some q =>
      obtain ⟨x1, y1⟩ := p
      obtain ⟨x2, y2⟩ := q
      by_cases c : x1 = x2 ∧ y1 + y2 = 0
      · have : padd a (some (x1, y1)) (some (x2, y2)) = none := by rw [padd_eq, if_pos c]
        rw [this]
        show some (x2, -y2) = some (x1, y1)
        rw [c.1, show y1 = -y2 by have := c.2; grind]
      · obtain ⟨l, s, e⟩ := slp_ex h2 hP hQ c
        have o3 := slp_on hP s
        rw [e]
        obtain ⟨s1, s2⟩ := s
        have oq : y2 * y2 = x2 * x2 * x2 + a * x2 + b := hQ
        generalize hx3 : l * l - x1 - x2 = x3 at *
        generalize hy3 : l * (x1 - x3) - y1 = y3 at *
        have s' : Slp a x3 y3 x2 (-y2) (-l) := by
          refine ⟨by grind, ?_⟩
          have : l * (y2 - y3) = x3 * x3 + x3 * x2 + x2 * x2 + a := by
            have e3 : y3 = l * (x2 - x3) - y2 := by grind
            have ea : a = l * (y1 + y2) - x1 * x1 - x1 * x2 - x2 * x2 := by grind
            have e1 : y1 = y2 - l * (x2 - x1) := by grind
            have ex : x1 = l * l - x2 - x3 := by grind
            subst e3 ea e1 ex
            grind
          grind
        have c' : ¬ (x3 = x2 ∧ y3 + -y2 = 0) := by
          intro z
          obtain ⟨z1, z2⟩ := z
          have t1 : 2 * y2 = 0 := by
            have := s'.1
            subst z1
            grind
          have y0 : y2 = 0 := f_cancel h2 t1
          have t2 := s'.2
          subst z1
          subst y0
          exact N.ns hQ (by grind)
        show padd a (some (x3, y3)) (some (x2, -y2)) = _
        rw [padd_slp h2 o3 (on_neg' hQ) c' s', show -l * -l - x3 - x2 = x1 by grind]
        congr 2
        grind
theorem padd_inj {a b : F} (h2 : (2 : F) ≠ 0) (N : NoSing a b) {P P' Q : Pt F} (hP : OnC a b P) (hP' : OnC a b P') (hQ : OnC a b Q) (e : padd a P Q = padd a P' Q) : P = P' := by
  rw [← padd_cancel h2 N hP hQ, e, padd_cancel h2 N hP' hQ]
/-! ### associativity -/
theorem as_x {x1 x2 x3 y2 l m N1 N2 D1 D2 : F}
  (E : 2 * y2 * (l - m) = m * m * (x3 - x2) - l * l * (x1 - x2) + x1 * x1 + x1 * x2 - x2 * x3 - x3 * x3)
  (hD1 : D1 = x3 - (l * l - x1 - x2)) (hD2 : D2 = x1 - (m * m - x2 - x3))
  (hN1 : N1 = 2 * y2 + m * (x3 - x2) - l * (x2 - (l * l - x1 - x2)))
  (hN2 : N2 = 2 * y2 + l * (x1 - x2) - m * (x2 - (m * m - x2 - x3))) :
  N1 * N1 * D2 * D2 - N2 * N2 * D1 * D1 = (l * l - m * m + 2 * x3 - 2 * x1) * D1 * D1 * D2 * D2 := by
  subst hD1 hD2 hN1 hN2
  grind
theorem as_y {x1 x2 x3 y1 y2 y3 l m N1 N2 D1 D2 : F}
  (E : 2 * y2 * (l - m) = m * m * (x3 - x2) - l * l * (x1 - x2) + x1 * x1 + x1 * x2 - x2 * x3 - x3 * x3)
  (hD1 : D1 = x3 - (l * l - x1 - x2)) (hD2 : D2 = x1 - (m * m - x2 - x3))
  (hN1 : N1 = 2 * y2 + m * (x3 - x2) - l * (x2 - (l * l - x1 - x2)))
  (hN2 : N2 = 2 * y2 + l * (x1 - x2) - m * (x2 - (m * m - x2 - x3)))
  (h1 : y1 = y2 + l * (x1 - x2)) (h3 : y3 = y2 + m * (x3 - x2)) :
  N1 * D2 * (2 * x3 * D1 * D1 + (l * l - x1 - x2) * D1 * D1 - N1 * N1) - N2 * D1 * (x1 * D1 * D1 + x3 * D1 * D1 + (l * l - x1 - x2) * D1 * D1 - N1 * N1) = (y3 - y1) * D1 * D1 * D1 * D2 := by
  subst hD1 hD2 hN1 hN2 h1 h3
  grind
theorem xx_aux {l m l2 m2 D1 D2 x1 x3 : F} (X : l2 * D1 * (l2 * D1) * D2 * D2 - m2 * D2 * (m2 * D2) * D1 * D1 = (l * l - m * m + 2 * x3 - 2 * x1) * D1 * D1 * D2 * D2) :
    D1 * (D1 * (D2 * (D2 * (l2 * l2 - m2 * m2 - (l * l - m * m + 2 * x3 - 2 * x1))))) = 0 := by grind
theorem xx_aux2 {l m l2 m2 x1 x2 x3 x4 x6 : F} (e : l2 * l2 - m2 * m2 - (l * l - m * m + 2 * x3 - 2 * x1) = 0) (h4 : l * l - x1 - x2 = x4) (h6 : m * m - x2 - x3 = x6) : l2 * l2 - x4 - x3 = m2 * m2 - x1 - x6 := by grind
theorem yy_aux2 {l2 m2 x1 x3 x4 y1 y3 y4 x : F} (e : l2 * (x3 - x) - m2 * (x1 - x) - (y3 - y1) = 0) (u1 : y3 - y4 = l2 * (x3 - x4)) : l2 * (x4 - x) - y4 = m2 * (x1 - x) - y1 := by grind
theorem yy_aux {l2 m2 D1 D2 x1 x3 x4 y1 y3 : F} (Y : l2 * D1 * D2 * (2 * x3 * D1 * D1 + x4 * D1 * D1 - l2 * D1 * (l2 * D1)) - m2 * D2 * D1 * (x1 * D1 * D1 + x3 * D1 * D1 + x4 * D1 * D1 - l2 * D1 * (l2 * D1)) = (y3 - y1) * D1 * D1 * D1 * D2) :
    D1 * (D1 * (D1 * (D2 * (l2 * (x3 - (l2 * l2 - x4 - x3)) - m2 * (x1 - (l2 * l2 - x4 - x3)) - (y3 - y1))))) = 0 := by grind
theorem as_gen {a b x1 y1 x2 y2 x3 y3 x4 y4 x6 y6 : F} (h2 : (2 : F) ≠ 0) (o1 : OnC a b (some (x1, y1))) (o2 : OnC a b (some (x2, y2))) (o3 : OnC a b (some (x3, y3)))
    (eS : padd a (some (x1, y1)) (some (x2, y2)) = some (x4, y4)) (eT : padd a (some (x2, y2)) (some (x3, y3)) = some (x6, y6)) (n1 : x4 ≠ x3) (n2 : x1 ≠ x6) :
    padd a (some (x4, y4)) (some (x3, y3)) = padd a (some (x1, y1)) (some (x6, y6)) := by
  have c1 : ¬ (x1 = x2 ∧ y1 + y2 = 0) := fun z => by rw [padd_eq, if_pos z] at eS; cases eS
  have c2 : ¬ (x2 = x3 ∧ y2 + y3 = 0) := fun z => by rw [padd_eq, if_pos z] at eT; cases eT
  have o4 : OnC a b (some (x4, y4)) := by rw [← eS]; exact padd_on h2 o1 o2
  have o6 : OnC a b (some (x6, y6)) := by rw [← eT]; exact padd_on h2 o2 o3
  obtain ⟨l, sl, el⟩ := slp_ex h2 o1 o2 c1
  obtain ⟨m, sm, em⟩ := slp_ex h2 o2 o3 c2
  have c3 : ¬ (x4 = x3 ∧ y4 + y3 = 0) := fun z => n1 z.1
  have c4 : ¬ (x1 = x6 ∧ y1 + y6 = 0) := fun z => n2 z.1
  obtain ⟨l2, sl2, el2⟩ := slp_ex h2 o4 o3 c3
  obtain ⟨m2, sm2, em2⟩ := slp_ex h2 o1 o6 c4
  rw [el2, em2]
  rw [el] at eS
  rw [em] at eT
  have e4 := Option.some.inj eS
  have e6 := Option.some.inj eT
  have x4e : l * l - x1 - x2 = x4 := congrArg Prod.fst e4
  have y4e := congrArg Prod.snd e4
  have x6e : m * m - x2 - x3 = x6 := congrArg Prod.fst e6
  have y6e := congrArg Prod.snd e6
  dsimp only at y4e y6e
  rw [x4e] at y4e
  rw [x6e] at y6e
  clear eS eT e4 e6 el em el2 em2 o1 o2 o3 o4 o6 c1 c2 c3 c4
  obtain ⟨s1, s2⟩ := sl
  obtain ⟨t1, t2⟩ := sm
  have u1 := sl2.1
  have v1 := sm2.1
  clear sl2 sm2
  have h1 : y1 = y2 + l * (x1 - x2) := by grind
  have h3 : y3 = y2 + m * (x3 - x2) := by grind
  have E : 2 * y2 * (l - m) = m * m * (x3 - x2) - l * l * (x1 - x2) + x1 * x1 + x1 * x2 - x2 * x3 - x3 * x3 := by
    have q : l * (y1 + y2) - m * (y2 + y3) = x1 * x1 + x1 * x2 - x2 * x3 - x3 * x3 := by grind
    rw [h1, h3] at q
    grind
  have hD1 : x3 - x4 = x3 - (l * l - x1 - x2) := by rw [x4e]
  have hD2 : x1 - x6 = x1 - (m * m - x2 - x3) := by rw [x6e]
  have hN1 : l2 * (x3 - x4) = 2 * y2 + m * (x3 - x2) - l * (x2 - (l * l - x1 - x2)) := by rw [x4e]; grind
  have hN2 : m2 * (x1 - x6) = 2 * y2 + l * (x1 - x2) - m * (x2 - (m * m - x2 - x3)) := by rw [x6e]; grind
  have X := as_x E hD1 hD2 hN1 hN2
  have Y := as_y E hD1 hD2 hN1 hN2 h1 h3
  rw [x4e] at Y
  have d1 : x3 - x4 ≠ 0 := by grind
  have d2 : x1 - x6 ≠ 0 := by grind
  generalize hp : x3 - x4 = D1 at *
  generalize hq : x1 - x6 = D2 at *
  have xx : l2 * l2 - x4 - x3 = m2 * m2 - x1 - x6 := xx_aux2 (f_cancel d2 (f_cancel d2 (f_cancel d1 (f_cancel d1 (xx_aux X))))) x4e x6e
  have yy : l2 * (x4 - (l2 * l2 - x4 - x3)) - y4 = m2 * (x1 - (m2 * m2 - x1 - x6)) - y1 := by
    rw [← xx]
    exact yy_aux2 (f_cancel d2 (f_cancel d1 (f_cancel d1 (f_cancel d1 (yy_aux Y))))) (by rw [hp]; exact u1)
  rw [yy, xx]
/-- (P+P)+R, but for one case -/
theorem as_dbl0 {a b : F} (h2 : (2 : F) ≠ 0) (N : NoSing a b) {P R : Pt F} (hP : OnC a b P) (hR : OnC a b R) (hn : padd a P P ≠ R) : padd a (padd a P P) R = padd a P (padd a P R) := by
  have nP := on_neg' hP
  have PP := padd_on h2 hP hP
  have nPP := padd_on h2 nP nP
  -- what is trivial
  by_cases e1 : padd a P P = none
  · have q := padd_none e1
    rw [e1, zero_padd]
    have : padd a P (padd a P R) = padd a (padd a R P) (pneg P) := by
      rw [padd_comm h2 hP (padd_on h2 hP hR), padd_comm h2 hP hR]
      rw [← q]
    rw [this, padd_cancel h2 N hR hP]
  by_cases e2 : padd a P R = none
  · have q := padd_none e2
    rw [e2, padd_zero, q]
    exact padd_cancel h2 N hP hP
  by_cases e3 : padd a (padd a P P) R = none
  · have q := padd_none e3
    rw [e3, q, pneg_padd h2 hP hP]
    have : padd a P (padd a (pneg P) (pneg P)) = pneg P := by
      rw [padd_comm h2 hP nPP]
      have := padd_cancel h2 N nP nP
      rwa [pneg_pneg] at this
    rw [this, padd_neg]
  by_cases e4 : padd a P (padd a P R) = none
  · have q := padd_none e4
    have : R = padd a (pneg P) (pneg P) := by
      have t := padd_cancel h2 N hR hP
      rw [padd_comm h2 hR hP, q] at t
      exact t.symm
    rw [e4, this, ← pneg_padd h2 hP hP, padd_neg]
  cases P with
  | none => rfl
  | some p =>
    cases R with
    | none => rw [padd_zero, padd_zero]
    | some r =>
      obtain ⟨x1, y1⟩ := p
      obtain ⟨x3, y3⟩ := r
      cases eS : padd a (some (x1, y1)) (some (x1, y1)) with
      | none => exact absurd eS e1
      | some s =>
        cases eT : padd a (some (x1, y1)) (some (x3, y3)) with
        | none => exact absurd eT e2
        | some t =>
          obtain ⟨x4, y4⟩ := s
          obtain ⟨x6, y6⟩ := t
          rw [eS] at e3 hn
          rw [eT] at e4
          have o4 : OnC a b (some (x4, y4)) := by rw [← eS]; exact PP
          have o6 : OnC a b (some (x6, y6)) := by rw [← eT]; exact padd_on h2 hP hR
          have same : ∀ {x y y' : F}, OnC a b (some (x, y)) → OnC a b (some (x, y')) → y = y' ∨ y + y' = 0 := by
            intro x y y' p q
            have p : y * y = x * x * x + a * x + b := p
            have q : y' * y' = x * x * x + a * x + b := q
            have : (y - y') * (y + y') = 0 := by grind
            rcases f_dom this with h | h
            · exact .inl (by grind)
            · exact .inr h
          have n1 : x4 ≠ x3 := by
            intro z
            subst z
            rcases same o4 hR with h | h
            · subst h; exact hn rfl
            · exact e3 (by rw [padd_eq, if_pos ⟨rfl, h⟩])
          have n2 : x1 ≠ x6 := by
            intro z
            subst z
            rcases same hP o6 with h | h
            · subst h
              -- P + R = P
              have q : padd a (some (x3, y3)) (some (x1, y1)) = padd a none (some (x1, y1)) := by
                rw [padd_comm h2 hR hP, eT]; rfl
              have := padd_inj h2 N hR (show OnC a b none from trivial) hP q
              cases this
            · exact e4 (by rw [padd_eq, if_pos ⟨rfl, h⟩])
          exact as_gen h2 hP hP hR eS eT n1 n2
theorem as_dbl {a b : F} (h2 : (2 : F) ≠ 0) (N : NoSing a b) {P R : Pt F} (hP : OnC a b P) (hR : OnC a b R) : padd a (padd a P P) R = padd a P (padd a P R) := by
  by_cases hn : padd a P P = R
  · subst hn
    have nP := on_neg' hP
    have hS := hR
    generalize eS : padd a P P = S at *
    -- S + -P = P
    have c0 : padd a S (pneg P) = P := by rw [← eS]; exact padd_cancel h2 N hP hP
    have key : padd a (padd a S S) (pneg P) = padd a S P := by
      by_cases h : padd a S S = pneg P
      · rw [h, ← pneg_padd h2 hP hP, eS]
        have c1 := padd_cancel h2 N hS hS
        rw [h] at c1
        have c1 := congrArg pneg c1
        rw [pneg_padd h2 nP (on_neg' hS), pneg_pneg, pneg_pneg, padd_comm h2 hP hS] at c1
        exact c1.symm
      · rw [as_dbl0 h2 N hS nP h, c0]
    have c2 := padd_cancel h2 N (padd_on h2 hS hS) nP
    rw [key, pneg_pneg] at c2
    rw [← c2, padd_comm h2 hP (padd_on h2 hP hS), padd_comm h2 hP hS]
  · exact as_dbl0 h2 N hP hR hn
theorem padd_assoc {a b : F} (h2 : (2 : F) ≠ 0) (N : NoSing a b) {P Q R : Pt F} (hP : OnC a b P) (hQ : OnC a b Q) (hR : OnC a b R) : padd a (padd a P Q) R = padd a P (padd a Q R) := by
  have nP := on_neg' hP
  have nQ := on_neg' hQ
  have nR := on_neg' hR
  have PQ := padd_on h2 hP hQ
  have QR := padd_on h2 hQ hR
  by_cases e1 : padd a P Q = none
  · have q := padd_none e1
    rw [e1, zero_padd, q, padd_comm h2 hP (padd_on h2 nP hR), padd_comm h2 nP hR]
    have := padd_cancel h2 N hR nP
    rw [pneg_pneg] at this
    exact this.symm
  by_cases e2 : padd a Q R = none
  · have q := padd_none e2
    rw [e2, padd_zero, q]
    exact padd_cancel h2 N hP hQ
  by_cases e3 : padd a (padd a P Q) R = none
  · have q := padd_none e3
    rw [e3, q, pneg_padd h2 hP hQ]
    have : padd a Q (padd a (pneg P) (pneg Q)) = pneg P := by
      rw [padd_comm h2 hQ (padd_on h2 nP nQ)]
      have := padd_cancel h2 N nP nQ
      rwa [pneg_pneg] at this
    rw [this, padd_neg]
  by_cases e4 : padd a P (padd a Q R) = none
  · have q := padd_none e4
    have : padd a P Q = pneg R := by
      have t : P = pneg (padd a Q R) := by rw [q, pneg_pneg]
      rw [t, pneg_padd h2 hQ hR, padd_comm h2 nQ nR]
      have := padd_cancel h2 N nR nQ
      rwa [pneg_pneg] at this
    rw [e4, this, neg_padd]
  by_cases d1 : P = Q
  · subst d1; exact as_dbl h2 N hP hR
  by_cases d2 : Q = R
  · subst d2
    have := as_dbl h2 N hQ hP
    rw [padd_comm h2 hP (padd_on h2 hQ hQ), this, padd_comm h2 (padd_on h2 hP hQ) hQ, padd_comm h2 hP hQ]
  by_cases d3 : padd a P Q = R
  · rw [d3]
    -- (R + R) + -P = R + Q
    have t := as_dbl h2 N hR nP
    have u : padd a R (pneg P) = Q := by
      rw [← d3, padd_comm h2 hP hQ]; exact padd_cancel h2 N hQ hP
    rw [u] at t
    have c := padd_cancel h2 N (padd_on h2 hR hR) nP
    rw [t, pneg_pneg] at c
    rw [← c, padd_comm h2 hP QR, padd_comm h2 hQ hR]
  by_cases d4 : P = padd a Q R
  · rw [← d4]
    have t := as_dbl h2 N hP nR
    have u : padd a P (pneg R) = Q := by
      rw [d4]; exact padd_cancel h2 N hQ hR
    rw [u] at t
    have c := padd_cancel h2 N (padd_on h2 hP hP) nR
    rw [t, pneg_pneg] at c
    exact c
  cases P with
  | none => rfl
  | some p =>
  cases R with
  | none => rw [padd_zero, padd_zero]
  | some r =>
  cases Q with
  | none => rw [padd_zero, zero_padd]
  | some q =>
    obtain ⟨x1, y1⟩ := p
    obtain ⟨x2, y2⟩ := q
    obtain ⟨x3, y3⟩ := r
    cases eS : padd a (some (x1, y1)) (some (x2, y2)) with
    | none => exact absurd eS e1
    | some s =>
      cases eT : padd a (some (x2, y2)) (some (x3, y3)) with
      | none => exact absurd eT e2
      | some t =>
        obtain ⟨x4, y4⟩ := s
        obtain ⟨x6, y6⟩ := t
        rw [eS] at e3 d3
        rw [eT] at e4 d4
        have o4 : OnC a b (some (x4, y4)) := by rw [← eS]; exact PQ
        have o6 : OnC a b (some (x6, y6)) := by rw [← eT]; exact QR
        have same : ∀ {x y y' : F}, OnC a b (some (x, y)) → OnC a b (some (x, y')) → y = y' ∨ y + y' = 0 := by
          intro x y y' p q
          have p : y * y = x * x * x + a * x + b := p
          have q : y' * y' = x * x * x + a * x + b := q
          have : (y - y') * (y + y') = 0 := by grind
          rcases f_dom this with h | h
          · exact .inl (by grind)
          · exact .inr h
        have n1 : x4 ≠ x3 := by
          intro z
          subst z
          rcases same o4 hR with h | h
          · subst h; exact d3 rfl
          · exact e3 (by rw [padd_eq, if_pos ⟨rfl, h⟩])
        have n2 : x1 ≠ x6 := by
          intro z
          subst z
          rcases same hP o6 with h | h
          · subst h; exact d4 rfl
          · exact e4 (by rw [padd_eq, if_pos ⟨rfl, h⟩])
        exact as_gen h2 hP hQ hR eS eT n1 n2
end
end Mi
set_option maxHeartbeats 1000000
namespace Mi
/-! ### the group of a short Weierstrass curve over residues -/
structure Cv where
  p : Nat
  a : Int
  b : Int
  pr : IsP p
  ge : 5 ≤ p
  a0 : 0 ≤ a
  a1 : a < p
  b0 : 0 ≤ b
  b1 : b < p
  ns : NoSing (zm p a) (zm p b)
instance (C : Cv) : Prm C.p := ⟨C.pr⟩
theorem Cv.two (C : Cv) : (2 : Zp C.p) ≠ 0 := z_ne_num 2 (by decide) (by have := C.ge; omega)
theorem Cv.three (C : Cv) : (3 : Zp C.p) ≠ 0 := z_ne_num 3 (by decide) (by have := C.ge; omega)
structure Cv.Pt (C : Cv) where
  v : Mi.Pt (Zp C.p)
  on : OnC (zm C.p C.a) (zm C.p C.b) v
theorem Cv.ext {C : Cv} {P Q : C.Pt} (h : P.v = Q.v) : P = Q := by cases P; cases Q; cases h; rfl
noncomputable instance (C : Cv) : Add C.Pt := ⟨fun P Q => ⟨padd (zm C.p C.a) P.v Q.v, padd_on C.two P.on Q.on⟩⟩
instance (C : Cv) : Zero C.Pt := ⟨⟨none, trivial⟩⟩
noncomputable instance (C : Cv) : Neg C.Pt := ⟨fun P => ⟨pneg P.v, on_neg' P.on⟩⟩
noncomputable instance (C : Cv) : Sub C.Pt := ⟨fun P Q => P + -Q⟩
noncomputable instance (C : Cv) : Lean.Grind.AddCommGroup C.Pt where
  add_zero := fun P => Cv.ext (padd_zero _ P.v)
  add_comm := fun P Q => Cv.ext (padd_comm C.two P.on Q.on)
  add_assoc := fun P Q R => Cv.ext (padd_assoc C.two C.ns P.on Q.on R.on)
  neg_add_cancel := fun P => Cv.ext (neg_padd _ P.v)
  sub_eq_add_neg := fun P Q => rfl
end Mi
set_option maxHeartbeats 40000000
namespace Mi
open Lean.Grind
section
variable {F : Type} [Field F]
/-! ### the sum of points of a twisted Edwards curve, over any field -/
theorem g_dom {x y : F} (h : x * y = 0) : x = 0 ∨ y = 0 := by
  by_cases hx : x = 0
  · exact .inl hx
  · refine .inr ?_
    have := Field.mul_inv_cancel hx
    grind
theorem g_cancel {x y : F} (hx : x ≠ 0) (h : x * y = 0) : y = 0 := (g_dom h).resolve_left hx
def OnE {R : Type} [CommRing R] (a d : R) (p : R × R) : Prop := a * p.1 * p.1 + p.2 * p.2 = 1 + d * p.1 * p.1 * p.2 * p.2
structure EdC {R : Type} [CommRing R] (a d : R) : Prop where
  two : (2 : R) ≠ 0
  sq : ∃ r, r * r = a ∧ r ≠ 0
  non : ∀ z : R, z * z ≠ d
noncomputable def eadd (a d : F) (p q : F × F) : F × F :=
  ((p.1 * q.2 + p.2 * q.1) * (1 + d * p.1 * q.1 * p.2 * q.2)⁻¹, (p.2 * q.2 - a * p.1 * q.1) * (1 - d * p.1 * q.1 * p.2 * q.2)⁻¹)
def eneg {R : Type} [CommRing R] (p : R × R) : R × R := (-p.1, p.2)
def ezero {R : Type} [CommRing R] : R × R := (0, 1)
theorem ed_sq {d x y r : F} (hn : ∀ z : F, z * z ≠ d) (hx : x ≠ 0) (h : y * y = d * x * x * r * r) (hr : r ≠ 0) : False := by
  have i := Field.mul_inv_cancel (a := x * r) (fun e => by rcases g_dom e with q | q; exact hx q; exact hr q)
  apply hn (y * (x * r)⁻¹)
  generalize (x * r)⁻¹ = v at *
  have : y * v * (y * v) = (y * y) * (v * v) := by grind
  rw [this, h]
  have : d * x * x * r * r * (v * v) = d * ((x * r * v) * (x * r * v)) := by grind
  rw [this, i]; grind
theorem ed_k1 {r d x1 y1 x2 y2 e : F} (o1 : r * r * x1 * x1 + y1 * y1 = 1 + d * x1 * x1 * y1 * y1) (o2 : r * r * x2 * x2 + y2 * y2 = 1 + d * x2 * x2 * y2 * y2) (he : e * e = 1) (h : d * x1 * x2 * y1 * y2 = e) :
    (r * x1 + e * y1) * (r * x1 + e * y1) = d * (x1 * y1) * (x1 * y1) * (r * x2 + y2) * (r * x2 + y2) := by
  have q2 : d * (x1 * y1) * (x1 * y1) * (r * x2 + y2) * (r * x2 + y2) = d * x1 * x1 * y1 * y1 * (r * r * x2 * x2 + y2 * y2) + 2 * r * (d * x1 * x2 * y1 * y2) * x1 * y1 := by grind
  have q3 : d * x1 * x1 * y1 * y1 * (1 + d * x2 * x2 * y2 * y2) = d * x1 * x1 * y1 * y1 + (d * x1 * x2 * y1 * y2) * (d * x1 * x2 * y1 * y2) := by grind
  rw [q2, o2, q3, h, he]
  have q4 : (r * x1 + e * y1) * (r * x1 + e * y1) = r * r * x1 * x1 + y1 * y1 * (e * e) + 2 * r * e * x1 * y1 := by grind
  rw [q4, he]
  grind
theorem ed_k2 {r d x1 y1 x2 y2 e : F} (o1 : r * r * x1 * x1 + y1 * y1 = 1 + d * x1 * x1 * y1 * y1) (o2 : r * r * x2 * x2 + y2 * y2 = 1 + d * x2 * x2 * y2 * y2) (he : e * e = 1) (h : d * x1 * x2 * y1 * y2 = e) :
    (r * x1 - e * y1) * (r * x1 - e * y1) = d * (x1 * y1) * (x1 * y1) * (r * x2 - y2) * (r * x2 - y2) := by
  have q2 : d * (x1 * y1) * (x1 * y1) * (r * x2 - y2) * (r * x2 - y2) = d * x1 * x1 * y1 * y1 * (r * r * x2 * x2 + y2 * y2) - 2 * r * (d * x1 * x2 * y1 * y2) * x1 * y1 := by grind
  have q3 : d * x1 * x1 * y1 * y1 * (1 + d * x2 * x2 * y2 * y2) = d * x1 * x1 * y1 * y1 + (d * x1 * x2 * y1 * y2) * (d * x1 * x2 * y1 * y2) := by grind
  rw [q2, o2, q3, h, he]
  have q4 : (r * x1 - e * y1) * (r * x1 - e * y1) = r * r * x1 * x1 + y1 * y1 * (e * e) - 2 * r * e * x1 * y1 := by grind
  rw [q4, he]
  grind
theorem ed_ne {a d x1 y1 x2 y2 e : F} (E : EdC a d) (o1 : OnE a d (x1, y1)) (o2 : OnE a d (x2, y2)) (he : e * e = 1) (h : d * x1 * x2 * y1 * y2 = e) : False := by
  have o1 : a * x1 * x1 + y1 * y1 = 1 + d * x1 * x1 * y1 * y1 := o1
  have o2 : a * x2 * x2 + y2 * y2 = 1 + d * x2 * x2 * y2 * y2 := o2
  obtain ⟨r, hr, r0⟩ := E.sq
  have e0 : e ≠ 0 := by
    intro z; subst z
    have : (1 : F) = 0 := by grind
    exact Field.zero_ne_one this.symm
  have hxy : x1 * y1 ≠ 0 := by
    intro z
    apply e0
    rw [← h]
    have : d * x1 * x2 * y1 * y2 = d * x2 * y2 * (x1 * y1) := by grind
    rw [this, z]; grind
  have hx2 : x2 ≠ 0 := by
    intro z; subst z; apply e0; rw [← h]; grind
  subst hr
  have k1 := ed_k1 o1 o2 he h
  have k2 := ed_k2 o1 o2 he h
  by_cases c1 : r * x2 + y2 = 0
  · by_cases c2 : r * x2 - y2 = 0
    · have t : 2 * (r * x2) = 0 := by grind
      exact hx2 (g_cancel r0 (g_cancel E.two t))
    · exact ed_sq E.non hxy k2 c2
  · exact ed_sq E.non hxy k1 c1
theorem ed_p {a d x1 y1 x2 y2 : F} (E : EdC a d) (o1 : OnE a d (x1, y1)) (o2 : OnE a d (x2, y2)) : 1 + d * x1 * x2 * y1 * y2 ≠ 0 := fun h => ed_ne E o1 o2 (e := -1) (by grind) (by grind)
theorem ed_m {a d x1 y1 x2 y2 : F} (E : EdC a d) (o1 : OnE a d (x1, y1)) (o2 : OnE a d (x2, y2)) : 1 - d * x1 * x2 * y1 * y2 ≠ 0 := fun h => ed_ne E o1 o2 (e := 1) (by grind) (by grind)
theorem ed_as_x {a d x1 y1 x2 y2 x3 y3 A B C D t s : F} (e1 : a*x1*x1+y1*y1 = 1+d*x1*x1*y1*y1) (e2 : a*x2*x2+y2*y2 = 1+d*x2*x2*y2*y2) (e3 : a*x3*x3+y3*y3 = 1+d*x3*x3*y3*y3)
  (hA : A = x1*y2+y1*x2) (hB : B = y1*y2-a*x1*x2) (hC : C = x2*y3+y2*x3) (hD : D = y2*y3-a*x2*x3) (ht : t = d*x1*x2*y1*y2) (hs : s = d*x2*x3*y2*y3) :
  (A*(1-t)*y3 + B*(1+t)*x3) * ((1-s*s)+d*C*D*x1*y1) = (x1*D*(1+s)+y1*C*(1-s)) * ((1-t*t)+d*A*B*x3*y3) := by
  subst hA hB hC hD ht hs
  grind
theorem ed_as_y {a d x1 y1 x2 y2 x3 y3 A B C D t s : F} (e1 : a*x1*x1+y1*y1 = 1+d*x1*x1*y1*y1) (e2 : a*x2*x2+y2*y2 = 1+d*x2*x2*y2*y2) (e3 : a*x3*x3+y3*y3 = 1+d*x3*x3*y3*y3)
  (hA : A = x1*y2+y1*x2) (hB : B = y1*y2-a*x1*x2) (hC : C = x2*y3+y2*x3) (hD : D = y2*y3-a*x2*x3) (ht : t = d*x1*x2*y1*y2) (hs : s = d*x2*x3*y2*y3) :
  (B*(1+t)*y3 - a*(A*(1-t)*x3)) * ((1-s*s)-d*C*D*x1*y1) = (y1*D*(1+s)-a*(x1*C*(1-s))) * ((1-t*t)-d*A*B*x3*y3) := by
  subst hA hB hC hD ht hs
  grind
theorem ed_clos {a d x1 y1 x2 y2 A B t : F} (e1 : a*x1*x1+y1*y1 = 1+d*x1*x1*y1*y1) (e2 : a*x2*x2+y2*y2 = 1+d*x2*x2*y2*y2)
  (hA : A = x1*y2+y1*x2) (hB : B = y1*y2-a*x1*x2) (ht : t = d*x1*x2*y1*y2) :
  a*A*A*(1-t)*(1-t) + B*B*(1+t)*(1+t) = (1-t*t)*(1-t*t) + d*A*A*B*B := by
  subst hA hB ht
  grind
theorem eadd_on {a d : F} (E : EdC a d) {p q : F × F} (hp : OnE a d p) (hq : OnE a d q) : OnE a d (eadd a d p q) := by
  obtain ⟨x1, y1⟩ := p
  obtain ⟨x2, y2⟩ := q
  have u := Field.mul_inv_cancel (ed_p E hp hq)
  have v := Field.mul_inv_cancel (ed_m E hp hq)
  have k := ed_clos (A := x1*y2+y1*x2) (B := y1*y2-a*x1*x2) (t := d*x1*x2*y1*y2) hp hq rfl rfl rfl
  show a * ((x1 * y2 + y1 * x2) * (1 + d * x1 * x2 * y1 * y2)⁻¹) * ((x1 * y2 + y1 * x2) * (1 + d * x1 * x2 * y1 * y2)⁻¹) + ((y1 * y2 - a * x1 * x2) * (1 - d * x1 * x2 * y1 * y2)⁻¹) * ((y1 * y2 - a * x1 * x2) * (1 - d * x1 * x2 * y1 * y2)⁻¹) = 1 + d * ((x1 * y2 + y1 * x2) * (1 + d * x1 * x2 * y1 * y2)⁻¹) * ((x1 * y2 + y1 * x2) * (1 + d * x1 * x2 * y1 * y2)⁻¹) * ((y1 * y2 - a * x1 * x2) * (1 - d * x1 * x2 * y1 * y2)⁻¹) * ((y1 * y2 - a * x1 * x2) * (1 - d * x1 * x2 * y1 * y2)⁻¹)
  generalize x1 * y2 + y1 * x2 = A at *
  generalize y1 * y2 - a * x1 * x2 = B at *
  generalize d * x1 * x2 * y1 * y2 = t at *
  generalize (1 + t)⁻¹ = i at *
  generalize (1 - t)⁻¹ = j at *
  have k := congrArg (fun z => z * (i * i * j * j)) k
  have m : a * A * A * (1 - t) * (1 - t) * (i * i * j * j) = a * (A * i) * (A * i) * (((1 - t) * j) * ((1 - t) * j)) := by grind
  have m2 : B * B * (1 + t) * (1 + t) * (i * i * j * j) = B * j * (B * j) * (((1 + t) * i) * ((1 + t) * i)) := by grind
  have m3 : (1 - t * t) * (1 - t * t) * (i * i * j * j) = (((1 + t) * i) * ((1 + t) * i)) * (((1 - t) * j) * ((1 - t) * j)) := by grind
  rw [u] at m2 m3
  rw [v] at m m3
  grind
theorem eadd_comm (a d : F) (p q : F × F) : eadd a d p q = eadd a d q p := by
  obtain ⟨x1, y1⟩ := p
  obtain ⟨x2, y2⟩ := q
  show ((x1 * y2 + y1 * x2) * (1 + d * x1 * x2 * y1 * y2)⁻¹, (y1 * y2 - a * x1 * x2) * (1 - d * x1 * x2 * y1 * y2)⁻¹) = ((x2 * y1 + y2 * x1) * (1 + d * x2 * x1 * y2 * y1)⁻¹, (y2 * y1 - a * x2 * x1) * (1 - d * x2 * x1 * y2 * y1)⁻¹)
  rw [show d * x2 * x1 * y2 * y1 = d * x1 * x2 * y1 * y2 by grind, show x2 * y1 + y2 * x1 = x1 * y2 + y1 * x2 by grind, show y2 * y1 - a * x2 * x1 = y1 * y2 - a * x1 * x2 by grind]
theorem f_inv1 : (1 : F)⁻¹ = 1 := by
  have := Field.mul_inv_cancel (a := (1 : F)) (fun h => Field.zero_ne_one h.symm)
  grind
theorem eadd_zero (a d : F) (p : F × F) : eadd a d p ezero = p := by
  obtain ⟨x1, y1⟩ := p
  show ((x1 * 1 + y1 * 0) * (1 + d * x1 * 0 * y1 * 1)⁻¹, (y1 * 1 - a * x1 * 0) * (1 - d * x1 * 0 * y1 * 1)⁻¹) = (x1, y1)
  rw [show 1 + d * x1 * 0 * y1 * 1 = 1 by grind, show 1 - d * x1 * 0 * y1 * 1 = 1 by grind, f_inv1]
  congr 1 <;> grind
theorem ezero_on (a d : F) : OnE a d (ezero : F × F) := by
  show a * 0 * 0 + 1 * 1 = 1 + d * 0 * 0 * 1 * 1
  grind
theorem eneg_on {a d : F} {p : F × F} (h : OnE a d p) : OnE a d (eneg p) := by
  obtain ⟨x, y⟩ := p
  have h : a * x * x + y * y = 1 + d * x * x * y * y := h
  show a * -x * -x + y * y = 1 + d * -x * -x * y * y
  grind
theorem eneg_eneg (p : F × F) : eneg (eneg p) = p := by
  obtain ⟨x, y⟩ := p
  show (- -x, y) = (x, y)
  rw [show - -x = x by grind]
theorem eadd_neg {a d : F} (E : EdC a d) {p : F × F} (h : OnE a d p) : eadd a d p (eneg p) = ezero := by
  have v := Field.mul_inv_cancel (ed_m E h (eneg_on h))
  obtain ⟨x, y⟩ := p
  have h : a * x * x + y * y = 1 + d * x * x * y * y := h
  show ((x * y + y * -x) * (1 + d * x * -x * y * y)⁻¹, (y * y - a * x * -x) * (1 - d * x * -x * y * y)⁻¹) = (0, 1)
  have v : (1 - d * x * -x * y * y) * (1 - d * x * -x * y * y)⁻¹ = 1 := v
  rw [show y * y - a * x * -x = 1 - d * x * -x * y * y by grind, v, show x * y + y * -x = 0 by grind, show (0 : F) * (1 + d * x * -x * y * y)⁻¹ = 0 by grind]
theorem f_div {x y u v i j : F} (hu : u * i = 1) (hv : v * j = 1) (h : x * v = y * u) : x * i = y * j := by
  have : x * i * (v * j) = y * j * (u * i) := by
    have : x * i * (v * j) = (x * v) * (i * j) := by grind
    rw [this, h]; grind
  rw [hu, hv] at this
  grind
theorem ed_frac {A B t x3 y3 k i j v d : F} (u1 : (1 + t) * i = 1) (u2 : (1 - t) * j = 1) (u3 : (1 + d * (A * i) * x3 * (B * j) * y3) * v = 1) :
    ((1 - t * t) + d * A * B * x3 * y3) * (v * i * j) = 1 ∧ (A * i * y3 + B * j * x3) * v = (A * (1 - t) * y3 + B * (1 + t) * x3) * (v * i * j) := by
  have q : (1 - t * t) * (i * j) = 1 := by
    have : (1 - t * t) * (i * j) = ((1 + t) * i) * ((1 - t) * j) := by grind
    rw [this, u1, u2]; grind
  constructor
  · have : ((1 - t * t) + d * A * B * x3 * y3) * (v * i * j) = ((1 - t * t) * (i * j) + d * (A * i) * x3 * (B * j) * y3) * v := by grind
    rw [this, q, u3]
  · have : (A * (1 - t) * y3 + B * (1 + t) * x3) * (v * i * j) = (A * i * ((1 - t) * j) * y3 + B * j * ((1 + t) * i) * x3) * v := by grind
    rw [this, u1, u2]; grind
theorem ed_fracy {a A B t x3 y3 i j v d : F} (u1 : (1 + t) * i = 1) (u2 : (1 - t) * j = 1) (u3 : (1 - d * (A * i) * x3 * (B * j) * y3) * v = 1) :
    ((1 - t * t) - d * A * B * x3 * y3) * (v * i * j) = 1 ∧ (B * j * y3 - a * (A * i) * x3) * v = (B * (1 + t) * y3 - a * (A * (1 - t) * x3)) * (v * i * j) := by
  have q : (1 - t * t) * (i * j) = 1 := by
    have : (1 - t * t) * (i * j) = ((1 + t) * i) * ((1 - t) * j) := by grind
    rw [this, u1, u2]; grind
  constructor
  · have : ((1 - t * t) - d * A * B * x3 * y3) * (v * i * j) = ((1 - t * t) * (i * j) - d * (A * i) * x3 * (B * j) * y3) * v := by grind
    rw [this, q, u3]
  · have : (B * (1 + t) * y3 - a * (A * (1 - t) * x3)) * (v * i * j) = (B * j * ((1 + t) * i) * y3 - a * (A * i * ((1 - t) * j)) * x3) * v := by grind
    rw [this, u1, u2]; grind
theorem eadd_assoc {a d : F} (E : EdC a d) {p q r : F × F} (hp : OnE a d p) (hq : OnE a d q) (hr : OnE a d r) : eadd a d (eadd a d p q) r = eadd a d p (eadd a d q r) := by
  have hpq := eadd_on E hp hq
  have hqr := eadd_on E hq hr
  have u1 := Field.mul_inv_cancel (ed_p E hp hq)
  have u2 := Field.mul_inv_cancel (ed_m E hp hq)
  have w1 := Field.mul_inv_cancel (ed_p E hq hr)
  have w2 := Field.mul_inv_cancel (ed_m E hq hr)
  have u3 := Field.mul_inv_cancel (ed_p E hpq hr)
  have u4 := Field.mul_inv_cancel (ed_m E hpq hr)
  have w3 := Field.mul_inv_cancel (ed_p E hqr hp)
  have w4 := Field.mul_inv_cancel (ed_m E hqr hp)
  rw [eadd_comm a d p (eadd a d q r)]
  obtain ⟨x1, y1⟩ := p
  obtain ⟨x2, y2⟩ := q
  obtain ⟨x3, y3⟩ := r
  have X := ed_as_x (A := x1*y2+y1*x2) (B := y1*y2-a*x1*x2) (C := x2*y3+y2*x3) (D := y2*y3-a*x2*x3) (t := d*x1*x2*y1*y2) (s := d*x2*x3*y2*y3) hp hq hr rfl rfl rfl rfl rfl rfl
  have Y := ed_as_y (A := x1*y2+y1*x2) (B := y1*y2-a*x1*x2) (C := x2*y3+y2*x3) (D := y2*y3-a*x2*x3) (t := d*x1*x2*y1*y2) (s := d*x2*x3*y2*y3) hp hq hr rfl rfl rfl rfl rfl rfl
  clear hpq hqr hp hq hr
  unfold eadd
  generalize x1 * y2 + y1 * x2 = A at *
  generalize y1 * y2 - a * x1 * x2 = B at *
  generalize d * x1 * x2 * y1 * y2 = t at *
  generalize x2 * y3 + y2 * x3 = C at *
  generalize y2 * y3 - a * x2 * x3 = D at *
  generalize d * x2 * x3 * y2 * y3 = s at *
  generalize (1 + t)⁻¹ = i at *
  generalize (1 - t)⁻¹ = j at *
  generalize (1 + s)⁻¹ = k at *
  generalize (1 - s)⁻¹ = l at *
  generalize (1 + d * (A * i) * x3 * (B * j) * y3)⁻¹ = v at *
  generalize (1 - d * (A * i) * x3 * (B * j) * y3)⁻¹ = v' at *
  generalize (1 + d * (C * k) * x1 * (D * l) * y1)⁻¹ = w at *
  generalize (1 - d * (C * k) * x1 * (D * l) * y1)⁻¹ = w' at *
  obtain ⟨a1, a2⟩ := ed_frac (x3 := x3) (y3 := y3) (k := 0) u1 u2 u3
  obtain ⟨b1, b2⟩ := ed_frac (x3 := x1) (y3 := y1) (k := 0) w1 w2 w3
  obtain ⟨c1, c2⟩ := ed_fracy (a := a) (x3 := x3) (y3 := y3) u1 u2 u4
  obtain ⟨d1, d2⟩ := ed_fracy (a := a) (x3 := x1) (y3 := y1) w1 w2 w4
  rw [a2, b2, c2, d2]
  congr 1
  · exact f_div a1 b1 (by rw [X]; grind)
  · exact f_div c1 d1 (by rw [Y]; grind)
end
end Mi
set_option maxHeartbeats 1000000
namespace Mi
/-! ### the group of a twisted Edwards curve over residues -/
structure Ev where
  p : Nat
  a : Int
  d : Int
  pr : IsP p
  ge : 3 ≤ p
  a0 : 0 ≤ a
  a1 : a < p
  d0 : 0 ≤ d
  d1 : d < p
  ec : EdC (zm p a) (zm p d)
instance ev_iprm (C : Ev) : Prm C.p := ⟨C.pr⟩
structure Ev.Pt (C : Ev) where
  v : Zp C.p × Zp C.p
  on : OnE (zm C.p C.a) (zm C.p C.d) v
theorem Ev.ext {C : Ev} {P Q : C.Pt} (h : P.v = Q.v) : P = Q := by cases P; cases Q; cases h; rfl
noncomputable instance ev_iadd (C : Ev) : Add C.Pt := ⟨fun P Q => ⟨eadd (zm C.p C.a) (zm C.p C.d) P.v Q.v, eadd_on C.ec P.on Q.on⟩⟩
noncomputable instance ev_izero (C : Ev) : Zero C.Pt := ⟨⟨ezero, ezero_on _ _⟩⟩
noncomputable instance ev_ineg (C : Ev) : Neg C.Pt := ⟨fun P => ⟨eneg P.v, eneg_on P.on⟩⟩
noncomputable instance ev_isub (C : Ev) : Sub C.Pt := ⟨fun P Q => P + -Q⟩
noncomputable instance ev_igrp (C : Ev) : Lean.Grind.AddCommGroup C.Pt where
  add_zero := fun P => Ev.ext (eadd_zero _ _ P.v)
  add_comm := fun P Q => Ev.ext (eadd_comm _ _ P.v Q.v)
  add_assoc := fun P Q R => Ev.ext (eadd_assoc C.ec P.on Q.on R.on)
  neg_add_cancel := fun P => Ev.ext (by
    show eadd _ _ (eneg P.v) P.v = ezero
    rw [eadd_comm]; exact eadd_neg C.ec P.on)
  sub_eq_add_neg := fun P Q => rfl
end Mi
set_option maxHeartbeats 4000000
namespace Mi
/-! ### a small number that is no square, for every prime below a million -/
def hw (q n e : Nat) : Nat := Nat.mod (Nat.mul (Nat.pow (Nat.mod (Nat.mul (Nat.pow (Nat.mod (Nat.mul (Nat.pow (Nat.pow q (Nat.div e 32768)) 32) (Nat.pow q (Nat.mod (Nat.div e 1024) 32))) n) 32) (Nat.pow q (Nat.mod (Nat.div e 32) 32))) n) 32) (Nat.pow q (Nat.mod e 32))) n
def hq (n e q : Nat) : Bool := Nat.ble 2 (hw q n e)
def gq (n g : Nat) : Bool := cond (Nat.ble 2 g) (cond (Nat.beq g n) false true) false
def gp (n P : Nat) : Bool := gq n (Nat.gcd P n)
def hn (n : Nat) : Bool := cond (gp n 6541380665835015) true ( cond (gp n 596198451071780903153248370436854441997784023331563115247063987027) true ( cond (gp n 16006124734833987812847898611219010509505243630710716917888649760122127893181413598427915663451817162356659929017218771548569) true ( cond (gp n 156915385718474740098380762903186294114572096170121960499858850559942028601603169440122137228528621637326135015991638173008859629176502034135881932577526949280554593084948790072440148477583174209256086407374119) true (cond (hq n (Nat.div n 2) 2) true ( cond (hq n (Nat.div n 2) 3) true ( cond (hq n (Nat.div n 2) 5) true ( cond (hq n (Nat.div n 2) 7) true ( cond (hq n (Nat.div n 2) 11) true ( cond (hq n (Nat.div n 2) 13) true ( cond (hq n (Nat.div n 2) 17) true ( cond (hq n (Nat.div n 2) 19) true ( cond (hq n (Nat.div n 2) 23) true ( cond (hq n (Nat.div n 2) 29) true ( cond (hq n (Nat.div n 2) 31) true ( cond (hq n (Nat.div n 2) 37) true ( cond (hq n (Nat.div n 2) 41) true ( cond (hq n (Nat.div n 2) 43) true ( cond (hq n (Nat.div n 2) 47) true ( cond (hq n (Nat.div n 2) 53) true ( cond (hq n (Nat.div n 2) 59) true ( cond (hq n (Nat.div n 2) 61) true ( cond (hq n (Nat.div n 2) 67) true ( cond (hq n (Nat.div n 2) 71) true ( cond (hq n (Nat.div n 2) 73) true ( cond (hq n (Nat.div n 2) 79) true ( cond (hq n (Nat.div n 2) 83) true ( cond (hq n (Nat.div n 2) 89) true ( cond (hq n (Nat.div n 2) 97) true ( cond (hq n (Nat.div n 2) 101) true (false))))))))))))))))))))))))))))))
def hr : Nat → Nat → Bool
  | 0, n => hn (Nat.add (Nat.mul 2 n) 1)
  | k + 1, n => cond (hr k (Nat.mul 2 n)) (hr k (Nat.add (Nat.mul 2 n) 1)) false
theorem hw_st (x b n : Nat) : (x % n) ^ 32 * b % n = x ^ 32 * b % n := by rw [Nat.mul_mod, ← Nat.pow_mod, ← Nat.mul_mod]
theorem hw_eq (q n e : Nat) : hw q n e = q ^ e % n := by
  have e1 : e = (((e / 32768) * 32 + e / 1024 % 32) * 32 + e / 32 % 32) * 32 + e % 32 := by omega
  show (((q ^ (e / 32768)) ^ 32 * q ^ (e / 1024 % 32) % n) ^ 32 * q ^ (e / 32 % 32) % n) ^ 32 * q ^ (e % 32) % n = _
  have st2 : ∀ a b c : Nat, ((a % n) ^ 32 * b) ^ 32 * c % n = (a ^ 32 * b) ^ 32 * c % n := fun a b c => by
    rw [Nat.mul_mod, Nat.pow_mod, hw_st, ← Nat.pow_mod, ← Nat.mul_mod]
  rw [hw_st, st2]
  conv => rhs; rw [e1]
  simp only [Nat.pow_add, Nat.pow_mul]
theorem hr_ok : ∀ (k n m : Nat), hr k n = true → n * 2 ^ k ≤ m → m < (n + 1) * 2 ^ k → hn (2 * m + 1) = true
  | 0, n, m, h, h1, h2 => by
    have : m = n := by simp at h1 h2; omega
    subst this; exact h
  | k + 1, n, m, h, h1, h2 => by
    have h : cond (hr k (2 * n)) (hr k (2 * n + 1)) false = true := h
    cases a : hr k (2 * n) with
    | false => rw [a] at h; cases h
    | true =>
      rw [a] at h
      have b : hr k (2 * n + 1) = true := h
      rw [Nat.pow_succ] at h1 h2
      by_cases c : m < (2 * n + 1) * 2 ^ k
      · exact hr_ok k (2 * n) m a (by rw [Nat.mul_comm 2 n, Nat.mul_assoc, Nat.mul_comm 2]; omega) c
      · refine hr_ok k (2 * n + 1) m b (by omega) ?_
        rw [show 2 * n + 1 + 1 = (n + 1) * 2 by omega, Nat.mul_assoc, Nat.mul_comm 2]
        omega
theorem hq_ok {p : Nat} (hp : IsP p) (ho : p % 2 = 1) {q : Nat} (h : hq p (Nat.div p 2) q = true) : q ^ ((p - 1) / 2) % p = p - 1 := by
  have h : 2 ≤ hw q p (p / 2) := Nat.le_of_ble_eq_true h
  have e : p / 2 = (p - 1) / 2 := by omega
  rw [hw_eq, e] at h
  have hd : ¬ p ∣ q := by
    intro d
    have h1 := hp.1
    have : p ∣ q ^ ((p - 1) / 2) := by
      have : (p - 1) / 2 = (p - 1) / 2 - 1 + 1 := by omega
      rw [this, Nat.pow_succ]
      exact Nat.dvd_trans d (Nat.dvd_mul_left ..)
    rw [Nat.mod_eq_zero_of_dvd this] at h
    omega
  have f := half_pow hp ho (a := (q : Int)) (fun d => hd (Int.natCast_dvd_natCast.mp d))
  have c : ((q : Int) ^ ((p - 1) / 2) % (p : Int)) = ((q ^ ((p - 1) / 2) % p : Nat) : Int) := by
    rw [Int.natCast_emod, Int.natCast_pow]
  rw [c] at f
  omega
theorem gp_no {p P : Nat} (hp : IsP p) : gp p P = false := by
  show gq p (Nat.gcd P p) = false
  rcases hp.2 _ (Nat.gcd_dvd_right P p) with h | h
  · rw [h]; rfl
  · rw [h]
    show cond (Nat.ble 2 p) (cond (Nat.beq p p) false true) false = false
    rw [Nat.beq_refl]
    cases Nat.ble 2 p <;> rfl
theorem cond_or {b c : Bool} (h : cond b true c = true) : b = true ∨ c = true := by cases b <;> simp_all
theorem hn_ok {p : Nat} (hp : IsP p) (ho : p % 2 = 1) (h : hn p = true) : ∃ q : Nat, 2 ≤ q ∧ q ≤ 101 ∧ q ^ ((p - 1) / 2) % p = p - 1 := by
  unfold hn at h
  simp only [gp_no hp, cond_false] at h
  rcases cond_or h with g | h
  · exact ⟨2, by decide, by decide, hq_ok hp ho g⟩
  rcases cond_or h with g | h
  · exact ⟨3, by decide, by decide, hq_ok hp ho g⟩
  rcases cond_or h with g | h
  · exact ⟨5, by decide, by decide, hq_ok hp ho g⟩
  rcases cond_or h with g | h
  · exact ⟨7, by decide, by decide, hq_ok hp ho g⟩
  rcases cond_or h with g | h
  · exact ⟨11, by decide, by decide, hq_ok hp ho g⟩
  rcases cond_or h with g | h
  · exact ⟨13, by decide, by decide, hq_ok hp ho g⟩
  rcases cond_or h with g | h
  · exact ⟨17, by decide, by decide, hq_ok hp ho g⟩
  rcases cond_or h with g | h
  · exact ⟨19, by decide, by decide, hq_ok hp ho g⟩
  rcases cond_or h with g | h
  · exact ⟨23, by decide, by decide, hq_ok hp ho g⟩
  rcases cond_or h with g | h
  · exact ⟨29, by decide, by decide, hq_ok hp ho g⟩
  rcases cond_or h with g | h
  · exact ⟨31, by decide, by decide, hq_ok hp ho g⟩
  rcases cond_or h with g | h
  · exact ⟨37, by decide, by decide, hq_ok hp ho g⟩
  rcases cond_or h with g | h
  · exact ⟨41, by decide, by decide, hq_ok hp ho g⟩
  rcases cond_or h with g | h
  · exact ⟨43, by decide, by decide, hq_ok hp ho g⟩
  rcases cond_or h with g | h
  · exact ⟨47, by decide, by decide, hq_ok hp ho g⟩
  rcases cond_or h with g | h
  · exact ⟨53, by decide, by decide, hq_ok hp ho g⟩
  rcases cond_or h with g | h
  · exact ⟨59, by decide, by decide, hq_ok hp ho g⟩
  rcases cond_or h with g | h
  · exact ⟨61, by decide, by decide, hq_ok hp ho g⟩
  rcases cond_or h with g | h
  · exact ⟨67, by decide, by decide, hq_ok hp ho g⟩
  rcases cond_or h with g | h
  · exact ⟨71, by decide, by decide, hq_ok hp ho g⟩
  rcases cond_or h with g | h
  · exact ⟨73, by decide, by decide, hq_ok hp ho g⟩
  rcases cond_or h with g | h
  · exact ⟨79, by decide, by decide, hq_ok hp ho g⟩
  rcases cond_or h with g | h
  · exact ⟨83, by decide, by decide, hq_ok hp ho g⟩
  rcases cond_or h with g | h
  · exact ⟨89, by decide, by decide, hq_ok hp ho g⟩
  rcases cond_or h with g | h
  · exact ⟨97, by decide, by decide, hq_ok hp ho g⟩
  rcases cond_or h with g | h
  · exact ⟨101, by decide, by decide, hq_ok hp ho g⟩
  cases h
theorem hs_0 : (hn 3 && hn 5 && hn 7 && hn 9 && hn 11 && hn 13 && hn 15) = true := by decide +kernel
theorem hs_3 : hr 3 1 = true := by decide +kernel
theorem hs_4 : hr 4 1 = true := by decide +kernel
theorem hs_5 : hr 5 1 = true := by decide +kernel
theorem hs_6 : hr 6 1 = true := by decide +kernel
theorem hs_7 : hr 7 1 = true := by decide +kernel
theorem hs_8 : hr 8 1 = true := by decide +kernel
theorem hs_9 : hr 9 1 = true := by decide +kernel
theorem hs_10 : hr 10 1 = true := by decide +kernel
theorem hs_11 : hr 11 1 = true := by decide +kernel
theorem hs_12 : hr 12 1 = true := by decide +kernel
theorem hs_all {m : Nat} (h1 : 1 ≤ m) (h2 : m < 8192) : hn (2 * m + 1) = true := by
  by_cases s : m < 8
  · have h := hs_0
    simp only [Bool.and_eq_true] at h
    rcases (by omega : m = 1 ∨ m = 2 ∨ m = 3 ∨ m = 4 ∨ m = 5 ∨ m = 6 ∨ m = 7) with rfl | rfl | rfl | rfl | rfl | rfl | rfl
    · exact h.1.1.1.1.1.1
    · exact h.1.1.1.1.1.2
    · exact h.1.1.1.1.2
    · exact h.1.1.1.2
    · exact h.1.1.2
    · exact h.1.2
    · exact h.2
  by_cases s : m < 16
  · exact hr_ok 3 1 m hs_3 (by omega) (by omega)
  by_cases s : m < 32
  · exact hr_ok 4 1 m hs_4 (by omega) (by omega)
  by_cases s : m < 64
  · exact hr_ok 5 1 m hs_5 (by omega) (by omega)
  by_cases s : m < 128
  · exact hr_ok 6 1 m hs_6 (by omega) (by omega)
  by_cases s : m < 256
  · exact hr_ok 7 1 m hs_7 (by omega) (by omega)
  by_cases s : m < 512
  · exact hr_ok 8 1 m hs_8 (by omega) (by omega)
  by_cases s : m < 1024
  · exact hr_ok 9 1 m hs_9 (by omega) (by omega)
  by_cases s : m < 2048
  · exact hr_ok 10 1 m hs_10 (by omega) (by omega)
  by_cases s : m < 4096
  · exact hr_ok 11 1 m hs_11 (by omega) (by omega)
  by_cases s : m < 8192
  · exact hr_ok 12 1 m hs_12 (by omega) (by omega)
  omega
theorem hr_1 : hr 13 1 = true := by decide +kernel
theorem hr_2 : hr 13 2 = true := by decide +kernel
theorem hr_3 : hr 13 3 = true := by decide +kernel
theorem hr_4 : hr 13 4 = true := by decide +kernel
theorem hr_5 : hr 13 5 = true := by decide +kernel
theorem hr_6 : hr 13 6 = true := by decide +kernel
theorem hr_7 : hr 13 7 = true := by decide +kernel
theorem hr_8 : hr 13 8 = true := by decide +kernel
theorem hr_9 : hr 13 9 = true := by decide +kernel
theorem hr_10 : hr 13 10 = true := by decide +kernel
theorem hr_11 : hr 13 11 = true := by decide +kernel
theorem hr_12 : hr 13 12 = true := by decide +kernel
theorem hr_13 : hr 13 13 = true := by decide +kernel
theorem hr_14 : hr 13 14 = true := by decide +kernel
theorem hr_15 : hr 13 15 = true := by decide +kernel
theorem hr_16 : hr 13 16 = true := by decide +kernel
theorem hr_17 : hr 13 17 = true := by decide +kernel
theorem hr_18 : hr 13 18 = true := by decide +kernel
theorem hr_19 : hr 13 19 = true := by decide +kernel
theorem hr_20 : hr 13 20 = true := by decide +kernel
theorem hr_21 : hr 13 21 = true := by decide +kernel
theorem hr_22 : hr 13 22 = true := by decide +kernel
theorem hr_23 : hr 13 23 = true := by decide +kernel
theorem hr_24 : hr 13 24 = true := by decide +kernel
theorem hr_25 : hr 13 25 = true := by decide +kernel
theorem hr_26 : hr 13 26 = true := by decide +kernel
theorem hr_27 : hr 13 27 = true := by decide +kernel
theorem hr_28 : hr 13 28 = true := by decide +kernel
theorem hr_29 : hr 13 29 = true := by decide +kernel
theorem hr_30 : hr 13 30 = true := by decide +kernel
theorem hr_31 : hr 13 31 = true := by decide +kernel
theorem hr_32 : hr 13 32 = true := by decide +kernel
theorem hr_33 : hr 13 33 = true := by decide +kernel
theorem hr_34 : hr 13 34 = true := by decide +kernel
theorem hr_35 : hr 13 35 = true := by decide +kernel
theorem hr_36 : hr 13 36 = true := by decide +kernel
theorem hr_37 : hr 13 37 = true := by decide +kernel
theorem hr_38 : hr 13 38 = true := by decide +kernel
theorem hr_39 : hr 13 39 = true := by decide +kernel
theorem hr_40 : hr 13 40 = true := by decide +kernel
theorem hr_41 : hr 13 41 = true := by decide +kernel
theorem hr_42 : hr 13 42 = true := by decide +kernel
theorem hr_43 : hr 13 43 = true := by decide +kernel
theorem hr_44 : hr 13 44 = true := by decide +kernel
theorem hr_45 : hr 13 45 = true := by decide +kernel
theorem hr_46 : hr 13 46 = true := by decide +kernel
theorem hr_47 : hr 13 47 = true := by decide +kernel
theorem hr_48 : hr 13 48 = true := by decide +kernel
theorem hr_49 : hr 13 49 = true := by decide +kernel
theorem hr_50 : hr 13 50 = true := by decide +kernel
theorem hr_51 : hr 13 51 = true := by decide +kernel
theorem hr_52 : hr 13 52 = true := by decide +kernel
theorem hr_53 : hr 13 53 = true := by decide +kernel
theorem hr_54 : hr 13 54 = true := by decide +kernel
theorem hr_55 : hr 13 55 = true := by decide +kernel
theorem hr_56 : hr 13 56 = true := by decide +kernel
theorem hr_57 : hr 13 57 = true := by decide +kernel
theorem hr_58 : hr 13 58 = true := by decide +kernel
theorem hr_59 : hr 13 59 = true := by decide +kernel
theorem hr_60 : hr 13 60 = true := by decide +kernel
theorem hr_61 : hr 13 61 = true := by decide +kernel
theorem hr_all {m : Nat} (h1 : 1 ≤ m) (h2 : m < 507904) : hn (2 * m + 1) = true := by
  by_cases s : m < 8192
  · exact hs_all h1 s
  by_cases s : m < 16384
  · exact hr_ok 13 1 m hr_1 (by omega) (by omega)
  by_cases s : m < 24576
  · exact hr_ok 13 2 m hr_2 (by omega) (by omega)
  by_cases s : m < 32768
  · exact hr_ok 13 3 m hr_3 (by omega) (by omega)
  by_cases s : m < 40960
  · exact hr_ok 13 4 m hr_4 (by omega) (by omega)
  by_cases s : m < 49152
  · exact hr_ok 13 5 m hr_5 (by omega) (by omega)
  by_cases s : m < 57344
  · exact hr_ok 13 6 m hr_6 (by omega) (by omega)
  by_cases s : m < 65536
  · exact hr_ok 13 7 m hr_7 (by omega) (by omega)
  by_cases s : m < 73728
  · exact hr_ok 13 8 m hr_8 (by omega) (by omega)
  by_cases s : m < 81920
  · exact hr_ok 13 9 m hr_9 (by omega) (by omega)
  by_cases s : m < 90112
  · exact hr_ok 13 10 m hr_10 (by omega) (by omega)
  by_cases s : m < 98304
  · exact hr_ok 13 11 m hr_11 (by omega) (by omega)
  by_cases s : m < 106496
  · exact hr_ok 13 12 m hr_12 (by omega) (by omega)
  by_cases s : m < 114688
  · exact hr_ok 13 13 m hr_13 (by omega) (by omega)
  by_cases s : m < 122880
  · exact hr_ok 13 14 m hr_14 (by omega) (by omega)
  by_cases s : m < 131072
  · exact hr_ok 13 15 m hr_15 (by omega) (by omega)
  by_cases s : m < 139264
  · exact hr_ok 13 16 m hr_16 (by omega) (by omega)
  by_cases s : m < 147456
  · exact hr_ok 13 17 m hr_17 (by omega) (by omega)
  by_cases s : m < 155648
  · exact hr_ok 13 18 m hr_18 (by omega) (by omega)
  by_cases s : m < 163840
  · exact hr_ok 13 19 m hr_19 (by omega) (by omega)
  by_cases s : m < 172032
  · exact hr_ok 13 20 m hr_20 (by omega) (by omega)
  by_cases s : m < 180224
  · exact hr_ok 13 21 m hr_21 (by omega) (by omega)
  by_cases s : m < 188416
  · exact hr_ok 13 22 m hr_22 (by omega) (by omega)
  by_cases s : m < 196608
  · exact hr_ok 13 23 m hr_23 (by omega) (by omega)
  by_cases s : m < 204800
  · exact hr_ok 13 24 m hr_24 (by omega) (by omega)
  by_cases s : m < 212992
  · exact hr_ok 13 25 m hr_25 (by omega) (by omega)
  by_cases s : m < 221184
  · exact hr_ok 13 26 m hr_26 (by omega) (by omega)
  by_cases s : m < 229376
  · exact hr_ok 13 27 m hr_27 (by omega) (by omega)
  by_cases s : m < 237568
  · exact hr_ok 13 28 m hr_28 (by omega) (by omega)
  by_cases s : m < 245760
  · exact hr_ok 13 29 m hr_29 (by omega) (by omega)
  by_cases s : m < 253952
  · exact hr_ok 13 30 m hr_30 (by omega) (by omega)
  by_cases s : m < 262144
  · exact hr_ok 13 31 m hr_31 (by omega) (by omega)
  by_cases s : m < 270336
  · exact hr_ok 13 32 m hr_32 (by omega) (by omega)
  by_cases s : m < 278528
  · exact hr_ok 13 33 m hr_33 (by omega) (by omega)
  by_cases s : m < 286720
  · exact hr_ok 13 34 m hr_34 (by omega) (by omega)
  by_cases s : m < 294912
  · exact hr_ok 13 35 m hr_35 (by omega) (by omega)
  by_cases s : m < 303104
  · exact hr_ok 13 36 m hr_36 (by omega) (by omega)
  by_cases s : m < 311296
  · exact hr_ok 13 37 m hr_37 (by omega) (by omega)
  by_cases s : m < 319488
  · exact hr_ok 13 38 m hr_38 (by omega) (by omega)
  by_cases s : m < 327680
  · exact hr_ok 13 39 m hr_39 (by omega) (by omega)
  by_cases s : m < 335872
  · exact hr_ok 13 40 m hr_40 (by omega) (by omega)
  by_cases s : m < 344064
  · exact hr_ok 13 41 m hr_41 (by omega) (by omega)
  by_cases s : m < 352256
  · exact hr_ok 13 42 m hr_42 (by omega) (by omega)
  by_cases s : m < 360448
  · exact hr_ok 13 43 m hr_43 (by omega) (by omega)
  by_cases s : m < 368640
  · exact hr_ok 13 44 m hr_44 (by omega) (by omega)
  by_cases s : m < 376832
  · exact hr_ok 13 45 m hr_45 (by omega) (by omega)
  by_cases s : m < 385024
  · exact hr_ok 13 46 m hr_46 (by omega) (by omega)
  by_cases s : m < 393216
  · exact hr_ok 13 47 m hr_47 (by omega) (by omega)
  by_cases s : m < 401408
  · exact hr_ok 13 48 m hr_48 (by omega) (by omega)
  by_cases s : m < 409600
  · exact hr_ok 13 49 m hr_49 (by omega) (by omega)
  by_cases s : m < 417792
  · exact hr_ok 13 50 m hr_50 (by omega) (by omega)
  by_cases s : m < 425984
  · exact hr_ok 13 51 m hr_51 (by omega) (by omega)
  by_cases s : m < 434176
  · exact hr_ok 13 52 m hr_52 (by omega) (by omega)
  by_cases s : m < 442368
  · exact hr_ok 13 53 m hr_53 (by omega) (by omega)
  by_cases s : m < 450560
  · exact hr_ok 13 54 m hr_54 (by omega) (by omega)
  by_cases s : m < 458752
  · exact hr_ok 13 55 m hr_55 (by omega) (by omega)
  by_cases s : m < 466944
  · exact hr_ok 13 56 m hr_56 (by omega) (by omega)
  by_cases s : m < 475136
  · exact hr_ok 13 57 m hr_57 (by omega) (by omega)
  by_cases s : m < 483328
  · exact hr_ok 13 58 m hr_58 (by omega) (by omega)
  by_cases s : m < 491520
  · exact hr_ok 13 59 m hr_59 (by omega) (by omega)
  by_cases s : m < 499712
  · exact hr_ok 13 60 m hr_60 (by omega) (by omega)
  by_cases s : m < 507904
  · exact hr_ok 13 61 m hr_61 (by omega) (by omega)
  omega
theorem small_non {p : Nat} (hp : IsP p) (ho : p % 2 = 1) (h : p < 1015808) : ∃ q : Nat, 2 ≤ q ∧ q ≤ 101 ∧ q ^ ((p - 1) / 2) % p = p - 1 := by
  have h2 := hp.1
  have := hr_all (m := p / 2) (by omega) (by omega)
  rw [show 2 * (p / 2) + 1 = p by omega] at this
  exact hn_ok hp ho this
end Mi
set_option maxHeartbeats 4000000
namespace Mi
open Lean.Grind
section
variable {F : Type} [Field F]
/-! ### a twisted Edwards curve as a short Weierstrass curve: a = 3 e + 2 c, d = 3 e - 2 c -/
theorem es_y {U1 U2 U3 l n c e : F} (s1 : 3 * e = l * l - (U1 + U2 + U3)) (s2 : c * c = U1 * U2 + U1 * U3 + U2 * U3 + 2 * l * n) (s3 : n * n = U1 * U2 * U3) :
    (l * U1 + n) * (l * U2 + n) * ((U1 - c) * (U2 - c) * (U3 + c) - (U1 + c) * (U2 + c) * (U3 - c)) = U1 * U2 * ((3 * e + 2 * c) * ((U1 + c) * (U2 + c) * (U3 + c)) - (3 * e - 2 * c) * ((U1 - c) * (U2 - c) * (U3 - c))) := by
  rw [s1]; grind
theorem es_x {U1 U2 U3 l n c e : F} (s1 : 3 * e = l * l - (U1 + U2 + U3)) (s2 : c * c = U1 * U2 + U1 * U3 + U2 * U3 + 2 * l * n) (s3 : n * n = U1 * U2 * U3) :
    U3 * ((l * U1 + n) * (l * U2 + n) * (U1 + c) * (U2 + c) + (3 * e - 2 * c) * U1 * U2 * (U1 - c) * (U2 - c)) = -(l * U3 + n) * (U1 * (l * U2 + n) * (U1 + c) * (U2 - c) + U2 * (l * U1 + n) * (U1 - c) * (U2 + c)) := by
  rw [s1]; grind
def wA (c e : F) : F := c * c - 3 * e * e
def wB (c e : F) : F := 2 * e * e * e - c * c * e
open Classical in
noncomputable def chi (c e : F) : Pt F → F × F
  | none => ezero
  | some (X, Y) => if Y = 0 then (0, -1) else ((X - e) * Y⁻¹, (X - e - c) * (X - e + c)⁻¹)
open Classical in
noncomputable def psi (c e : F) (p : F × F) : Pt F :=
  if p.1 = 0 then (if p.2 = 1 then none else some (e, 0)) else some (c * (1 + p.2) * (1 - p.2)⁻¹ + e, c * (1 + p.2) * (1 - p.2)⁻¹ * p.1⁻¹)
structure EsC (c e : F) : Prop where
  ed : EdC (3 * e + 2 * c) (3 * e - 2 * c)
variable {c e : F}
theorem EsC.c0 (h : EsC c e) : c ≠ 0 := by
  rintro rfl
  obtain ⟨r, hr, _⟩ := h.ed.sq
  exact h.ed.non r (by rw [hr]; grind)
theorem w_on {U V : F} (o : OnC (wA c e) (wB c e) (some (U + e, V))) : V * V = U * U * U + 3 * e * U * U + c * c * U := by
  have o : V * V = (U + e) * (U + e) * (U + e) + (c * c - 3 * e * e) * (U + e) + (2 * e * e * e - c * c * e) := o
  rw [o]; grind
theorem on_w {U V : F} (o : V * V = U * U * U + 3 * e * U * U + c * c * U) : OnC (wA c e) (wB c e) (some (U + e, V)) := by
  show V * V = (U + e) * (U + e) * (U + e) + (c * c - 3 * e * e) * (U + e) + (2 * e * e * e - c * c * e)
  rw [o]; grind
/-- no point has U = -c -/
theorem w_m (h : EsC c e) {U V : F} (o : V * V = U * U * U + 3 * e * U * U + c * c * U) : U + c ≠ 0 := by
  intro q
  have hU : U = -c := by grind
  subst hU
  have o : V * V = c * c * (3 * e - 2 * c) := by rw [o]; grind
  have iv := Field.mul_inv_cancel h.c0
  exact h.ed.non (V * c⁻¹) (by
    have : V * c⁻¹ * (V * c⁻¹) = (V * V) * (c⁻¹ * c⁻¹) := by grind
    rw [this, o]; grind)
/-- V = 0 only at U = 0 -/
theorem w_0 (h : EsC c e) {U V : F} (o : V * V = U * U * U + 3 * e * U * U + c * c * U) : V = 0 ↔ U = 0 := by
  constructor
  · rintro rfl
    refine Classical.byContradiction fun hU => ?_
    have q : U * U + 3 * e * U + c * c = 0 := f_cancel hU (by grind)
    obtain ⟨r, hr, r0⟩ := h.ed.sq
    have iv := Field.mul_inv_cancel r0
    refine h.ed.non ((2 * U + 3 * e) * r⁻¹) ?_
    have t : (2 * U + 3 * e) * (2 * U + 3 * e) = (3 * e - 2 * c) * (r * r) := by rw [hr]; grind
    have : (2 * U + 3 * e) * r⁻¹ * ((2 * U + 3 * e) * r⁻¹) = (2 * U + 3 * e) * (2 * U + 3 * e) * (r⁻¹ * r⁻¹) := by grind
    rw [this, t]; grind
  · rintro rfl
    have : V * V = 0 := by rw [o]; grind
    rcases f_dom this with q | q <;> exact q
open Classical in
theorem chi_eq (X Y : F) : chi c e (some (X, Y)) = if Y = 0 then (0, -1) else ((X - e) * Y⁻¹, (X - e - c) * (X - e + c)⁻¹) := rfl
theorem chi_some {U V : F} (hV : V ≠ 0) : chi c e (some (U + e, V)) = (U * V⁻¹, (U - c) * (U + c)⁻¹) := by
  rw [chi_eq, if_neg hV]
  have t1 : U + e - e = U := by grind
  have t2 : U + e - e - c = U - c := by grind
  have t3 : U + e - e + c = U + c := by grind
  rw [t1]
theorem chi_0 {U : F} : chi c e (some (U, 0)) = (0, -1) := by
  rw [chi_eq, if_pos rfl]
theorem chi_on (h : EsC c e) {P : Pt F} (o : OnC (wA c e) (wB c e) P) : OnE (3 * e + 2 * c) (3 * e - 2 * c) (chi c e P) := by
  cases P with
  | none => exact ezero_on _ _
  | some q =>
    obtain ⟨X, V⟩ := q
    obtain ⟨U, rfl⟩ : ∃ U, X = U + e := ⟨X - e, by grind⟩
    have o := w_on o
    by_cases hV : V = 0
    · subst hV
      rw [chi_0]
      show (3 * e + 2 * c) * 0 * 0 + -1 * -1 = 1 + (3 * e - 2 * c) * 0 * 0 * -1 * -1
      grind
    · rw [chi_some hV]
      have i := Field.mul_inv_cancel hV
      have j := Field.mul_inv_cancel (w_m h o)
      show (3 * e + 2 * c) * (U * V⁻¹) * (U * V⁻¹) + ((U - c) * (U + c)⁻¹) * ((U - c) * (U + c)⁻¹) = 1 + (3 * e - 2 * c) * (U * V⁻¹) * (U * V⁻¹) * ((U - c) * (U + c)⁻¹) * ((U - c) * (U + c)⁻¹)
      generalize V⁻¹ = i' at *
      generalize (U + c)⁻¹ = j' at *
      have key : (3 * e + 2 * c) * U * U * (U + c) * (U + c) + (U - c) * (U - c) * (V * V) = (V * V) * (U + c) * (U + c) + (3 * e - 2 * c) * U * U * (U - c) * (U - c) := by rw [o]; grind
      have m1 : V * i' * (V * i') = 1 := by rw [i]; grind
      have m2 : (U + c) * j' * ((U + c) * j') = 1 := by rw [j]; grind
      have : i' * i' * (j' * j') * ((3 * e + 2 * c) * U * U * (U + c) * (U + c) + (U - c) * (U - c) * (V * V)) = i' * i' * (j' * j') * ((V * V) * (U + c) * (U + c) + (3 * e - 2 * c) * U * U * (U - c) * (U - c)) := by rw [key]
      have e1 : i' * i' * (j' * j') * ((3 * e + 2 * c) * U * U * (U + c) * (U + c) + (U - c) * (U - c) * (V * V)) = (3 * e + 2 * c) * (U * i') * (U * i') * ((U + c) * j' * ((U + c) * j')) + ((U - c) * j') * ((U - c) * j') * (V * i' * (V * i')) := by grind
      have e2 : i' * i' * (j' * j') * ((V * V) * (U + c) * (U + c) + (3 * e - 2 * c) * U * U * (U - c) * (U - c)) = (V * i' * (V * i')) * ((U + c) * j' * ((U + c) * j')) + (3 * e - 2 * c) * (U * i') * (U * i') * ((U - c) * j') * ((U - c) * j') := by grind
      rw [e1, e2, m1, m2] at this
      grind
theorem chi_neg {P : Pt F} : chi c e (pneg P) = eneg (chi c e P) := by
  cases P with
  | none => show ((0 : F), (1 : F)) = (-0, 1); congr 1; grind
  | some q =>
    obtain ⟨X, V⟩ := q
    show chi c e (some (X, -V)) = eneg (chi c e (some (X, V)))
    by_cases hV : V = 0
    · subst hV
      have : -(0 : F) = 0 := by grind
      rw [this, chi_0]
      show ((0 : F), (-1 : F)) = (-0, -1)
      rw [this]
    · have : -V ≠ 0 := by grind
      rw [chi_eq, chi_eq, if_neg this, if_neg hV]
      show ((X - e) * (-V)⁻¹, _) = (-((X - e) * V⁻¹), _)
      congr 1
      have i := Field.mul_inv_cancel hV
      have j := Field.mul_inv_cancel this
      have : (-V)⁻¹ = -V⁻¹ := by
        have : V * ((-V)⁻¹ + V⁻¹) = 0 := by grind
        have := f_cancel hV this
        grind
      rw [this]; grind
theorem fr_x {U1 U2 U3 V1 V2 V3 w1 w2 w3 A1 A2 B1 B2 r1 r2 d : F} (i1 : V1 * w1 = 1) (i2 : V2 * w2 = 1) (i3 : V3 * w3 = 1) (j1 : B1 * r1 = 1) (j2 : B2 * r2 = 1)
    (kx : U3 * (V1 * V2 * B1 * B2 + d * U1 * U2 * A1 * A2) = V3 * (U1 * V2 * B1 * A2 + U2 * V1 * A1 * B2)) :
    U3 * w3 * (1 + d * (U1 * w1) * (U2 * w2) * (A1 * r1) * (A2 * r2)) = U1 * w1 * (A2 * r2) + A1 * r1 * (U2 * w2) := by
  have t : U3 * w3 * (1 + d * (U1 * w1) * (U2 * w2) * (A1 * r1) * (A2 * r2)) = w1 * w2 * w3 * r1 * r2 * (U3 * (V1 * V2 * B1 * B2 + d * U1 * U2 * A1 * A2)) := by
    clear kx
    have : w1 * w2 * w3 * r1 * r2 * (U3 * (V1 * V2 * B1 * B2 + d * U1 * U2 * A1 * A2)) = U3 * w3 * ((V1 * w1) * (V2 * w2) * (B1 * r1) * (B2 * r2) + d * (U1 * w1) * (U2 * w2) * (A1 * r1) * (A2 * r2)) := by clear i1 i2 i3 j1 j2; grind
    rw [this, i1, i2, j1, j2]; clear i1 i2 i3 j1 j2 this; grind
  have t2 : U1 * w1 * (A2 * r2) + A1 * r1 * (U2 * w2) = w1 * w2 * w3 * r1 * r2 * (V3 * (U1 * V2 * B1 * A2 + U2 * V1 * A1 * B2)) := by
    clear kx t
    have : w1 * w2 * w3 * r1 * r2 * (V3 * (U1 * V2 * B1 * A2 + U2 * V1 * A1 * B2)) = (V3 * w3) * ((V2 * w2) * (B1 * r1) * (U1 * w1 * (A2 * r2)) + (V1 * w1) * (B2 * r2) * (A1 * r1 * (U2 * w2))) := by clear i1 i2 i3 j1 j2; grind
    rw [this, i1, i2, i3, j1, j2]; clear i1 i2 i3 j1 j2 this; grind
  rw [t, t2, kx]
theorem fr_y {U1 U2 V1 V2 w1 w2 A1 A2 A3 B1 B2 B3 r1 r2 r3 a d : F} (i1 : V1 * w1 = 1) (i2 : V2 * w2 = 1) (j1 : B1 * r1 = 1) (j2 : B2 * r2 = 1) (j3 : B3 * r3 = 1)
    (ky : V1 * V2 * (A1 * A2 * B3 - B1 * B2 * A3) = U1 * U2 * (a * (B1 * B2 * B3) - d * (A1 * A2 * A3))) :
    A3 * r3 * (1 - d * (U1 * w1) * (U2 * w2) * (A1 * r1) * (A2 * r2)) = A1 * r1 * (A2 * r2) - a * (U1 * w1) * (U2 * w2) := by
  have t : A3 * r3 * (1 - d * (U1 * w1) * (U2 * w2) * (A1 * r1) * (A2 * r2)) = w1 * w2 * r1 * r2 * r3 * (V1 * V2 * B1 * B2 * A3 - d * U1 * U2 * A1 * A2 * A3) := by
    clear ky
    have : w1 * w2 * r1 * r2 * r3 * (V1 * V2 * B1 * B2 * A3 - d * U1 * U2 * A1 * A2 * A3) = A3 * r3 * ((V1 * w1) * (V2 * w2) * (B1 * r1) * (B2 * r2) - d * (U1 * w1) * (U2 * w2) * (A1 * r1) * (A2 * r2)) := by clear i1 i2 j1 j2 j3; grind
    rw [this, i1, i2, j1, j2]; clear i1 i2 j1 j2 j3 this; grind
  have t2 : A1 * r1 * (A2 * r2) - a * (U1 * w1) * (U2 * w2) = w1 * w2 * r1 * r2 * r3 * (V1 * V2 * A1 * A2 * B3 - a * U1 * U2 * B1 * B2 * B3) := by
    clear ky t
    have : w1 * w2 * r1 * r2 * r3 * (V1 * V2 * A1 * A2 * B3 - a * U1 * U2 * B1 * B2 * B3) = (B3 * r3) * ((V1 * w1) * (V2 * w2) * (A1 * r1 * (A2 * r2)) - (B1 * r1) * (B2 * r2) * (a * (U1 * w1) * (U2 * w2))) := by clear i1 i2 j1 j2 j3; grind
    rw [this, i1, i2, j1, j2, j3]; clear i1 i2 j1 j2 j3 this; grind
  rw [t, t2]
  have : V1 * V2 * B1 * B2 * A3 - d * U1 * U2 * A1 * A2 * A3 = V1 * V2 * A1 * A2 * B3 - a * U1 * U2 * B1 * B2 * B3 := by clear t t2 i1 i2 j1 j2 j3; grind
  rw [this]
theorem pr_eq {A B i j x y N M : F} (u : N * i = 1) (v : M * j = 1) (hx : x * N = A) (hy : y * M = B) : ((A * i, B * j) : F × F) = (x, y) := by
  have h1 : A * i = x := by rw [← hx]; grind
  have h2 : B * j = y := by rw [← hy]; grind
  rw [h1, h2]
/-- the sum of the images is the image of the sum: the general case -/
theorem chi_line (h : EsC c e) {U1 V1 U2 V2 U3 V3 l n : F} (o1 : V1 * V1 = U1 * U1 * U1 + 3 * e * U1 * U1 + c * c * U1) (o2 : V2 * V2 = U2 * U2 * U2 + 3 * e * U2 * U2 + c * c * U2) (o3 : V3 * V3 = U3 * U3 * U3 + 3 * e * U3 * U3 + c * c * U3)
    (z1 : V1 ≠ 0) (z2 : V2 ≠ 0) (z3 : V3 ≠ 0) (e1 : V1 = l * U1 + n) (e2 : V2 = l * U2 + n) (e3 : V3 = -(l * U3 + n)) (s1 : 3 * e = l * l - (U1 + U2 + U3)) (s2 : c * c = U1 * U2 + U1 * U3 + U2 * U3 + 2 * l * n) (s3 : n * n = U1 * U2 * U3) :
    eadd (3 * e + 2 * c) (3 * e - 2 * c) (chi c e (some (U1 + e, V1))) (chi c e (some (U2 + e, V2))) = chi c e (some (U3 + e, V3)) := by
  have q1 := chi_on h (on_w o1)
  have q2 := chi_on h (on_w o2)
  rw [chi_some z1] at q1 ⊢
  rw [chi_some z2] at q2 ⊢
  rw [chi_some z3]
  have dp := Field.mul_inv_cancel (ed_p h.ed q1 q2)
  have dm := Field.mul_inv_cancel (ed_m h.ed q1 q2)
  have i1 := Field.mul_inv_cancel z1
  have i2 := Field.mul_inv_cancel z2
  have i3 := Field.mul_inv_cancel z3
  have j1 := Field.mul_inv_cancel (w_m h o1)
  have j2 := Field.mul_inv_cancel (w_m h o2)
  have j3 := Field.mul_inv_cancel (w_m h o3)
  have kx := es_x s1 s2 s3
  have ky := es_y s1 s2 s3
  rw [← e1, ← e2] at kx ky
  rw [← e3] at kx
  have m1 := w_m h o1
  have m2 := w_m h o2
  have m3 := w_m h o3
  unfold eadd
  exact pr_eq dp dm (fr_x i1 i2 i3 j1 j2 kx) (fr_y i1 i2 j1 j2 j3 ky)
theorem eadd_T {a d x y : F} : eadd a d (0, -1) (x, y) = (-x, -y) := by
  unfold eadd
  show ((0 * y + -1 * x) * (1 + d * 0 * x * -1 * y)⁻¹, (-1 * y - a * 0 * x) * (1 - d * 0 * x * -1 * y)⁻¹) = _
  have t1 : 1 + d * 0 * x * -1 * y = 1 := by grind
  have t2 : 1 - d * 0 * x * -1 * y = 1 := by grind
  rw [t1, t2, f_inv1]
  congr 1 <;> grind
/-- what a line through two points gives -/
theorem line_ex (h2 : (2 : F) ≠ 0) {U1 V1 U2 V2 : F} (o1 : OnC (wA c e) (wB c e) (some (U1 + e, V1))) (o2 : OnC (wA c e) (wB c e) (some (U2 + e, V2))) (hn : ¬ (U1 + e = U2 + e ∧ V1 + V2 = 0)) :
    ∃ U3 V3 l n, padd (wA c e) (some (U1 + e, V1)) (some (U2 + e, V2)) = some (U3 + e, V3) ∧ OnC (wA c e) (wB c e) (some (U3 + e, V3)) ∧ V1 = l * U1 + n ∧ V2 = l * U2 + n ∧ V3 = -(l * U3 + n) ∧
      3 * e = l * l - (U1 + U2 + U3) ∧ c * c = U1 * U2 + U1 * U3 + U2 * U3 + 2 * l * n ∧ n * n = U1 * U2 * U3 := by
  obtain ⟨l, s, p⟩ := slp_ex h2 o1 o2 hn
  have on := slp_on o1 s
  have o1' := w_on o1
  obtain ⟨a1, a2⟩ := s
  have t : l * l - (U1 + e) - (U2 + e) = (l * l - 3 * e - U1 - U2) + e := by grind
  rw [t] at p on
  have a1 : V2 - V1 = l * (U2 - U1) := by rw [a1]; grind
  have a2 : l * (V1 + V2) = U1 * U1 + U1 * U2 + U2 * U2 + 3 * e * (U1 + U2) + c * c := by
    have : l * (V1 + V2) = (U1 + e) * (U1 + e) + (U1 + e) * (U2 + e) + (U2 + e) * (U2 + e) + (c * c - 3 * e * e) := a2
    rw [this]; grind
  refine ⟨_, _, l, V1 - l * U1, p, on, by grind, by grind, by grind, by grind, ?_, ?_⟩
  · clear p on o1 o2 hn t o1'
    have : V2 = V1 + l * (U2 - U1) := by grind
    subst this
    grind
  · clear p on o1 o2 hn t
    have e2 : V2 = V1 + l * (U2 - U1) := by grind
    subst e2
    have k : c * c = 2 * l * V1 + l * l * (U2 - U1) - (U1 * U1 + U1 * U2 + U2 * U2 + 3 * e * (U1 + U2)) := by grind
    clear a1 a2
    have : (V1 - l * U1) * (V1 - l * U1) = V1 * V1 - 2 * l * U1 * V1 + l * l * U1 * U1 := by grind
    rw [this, o1', k]
    grind
theorem chi_T (h : EsC c e) (h2 : (2 : F) ≠ 0) {U1 U2 V2 : F} (o1 : OnC (wA c e) (wB c e) (some (U1 + e, 0))) (o2 : OnC (wA c e) (wB c e) (some (U2 + e, V2))) (hn : ¬ (U1 + e = U2 + e ∧ 0 + V2 = 0)) :
    chi c e (padd (wA c e) (some (U1 + e, 0)) (some (U2 + e, V2))) = eadd (3 * e + 2 * c) (3 * e - 2 * c) (chi c e (some (U1 + e, 0))) (chi c e (some (U2 + e, V2))) := by
  obtain ⟨U3, V3, l, n, p, o3, e1, e2, e3, s1, s2, s3⟩ := line_ex h2 o1 o2 hn
  have z1 := (w_0 h (w_on o1)).mp rfl
  have c0 := h.c0
  subst z1
  have n0 : n = 0 := by grind
  subst n0
  have s2 : c * c = U2 * U3 := by grind
  have u2 : U2 ≠ 0 := by
    rintro rfl
    exact c0 (f_cancel c0 (by rw [s2]; grind))
  have u3 : U3 ≠ 0 := by
    rintro rfl
    exact c0 (f_cancel c0 (by rw [s2]; grind))
  have v2 : V2 ≠ 0 := mt (w_0 h (w_on o2)).mp u2
  have v3 : V3 ≠ 0 := mt (w_0 h (w_on o3)).mp u3
  have i2 := Field.mul_inv_cancel v2
  have i3 := Field.mul_inv_cancel v3
  have j2 := Field.mul_inv_cancel (w_m h (w_on o2))
  have j3 := Field.mul_inv_cancel (w_m h (w_on o3))
  rw [p, chi_0, chi_some v2, chi_some v3, eadd_T]
  have e2 : V2 = l * U2 := by grind
  have e3 : V3 = -(l * U3) := by grind
  clear p o1 o2 o3 hn e1 s1 s3 h h2
  congr 1
  · have : V2 * (V3 * (U3 * V3⁻¹ + U2 * V2⁻¹)) = 0 := by
      have : V2 * (V3 * (U3 * V3⁻¹ + U2 * V2⁻¹)) = V2 * U3 * (V3 * V3⁻¹) + V3 * U2 * (V2 * V2⁻¹) := by clear i2 i3; grind
      rw [this, i2, i3, e2, e3]; grind
    have := f_cancel v3 (f_cancel v2 this)
    grind
  · have m2 : U2 + c ≠ 0 := fun q => by rw [q] at j2; grind
    have m3 : U3 + c ≠ 0 := fun q => by rw [q] at j3; grind
    have : (U2 + c) * ((U3 + c) * ((U3 - c) * (U3 + c)⁻¹ + (U2 - c) * (U2 + c)⁻¹)) = 0 := by
      have : (U2 + c) * ((U3 + c) * ((U3 - c) * (U3 + c)⁻¹ + (U2 - c) * (U2 + c)⁻¹)) = (U2 + c) * (U3 - c) * ((U3 + c) * (U3 + c)⁻¹) + (U3 + c) * (U2 - c) * ((U2 + c) * (U2 + c)⁻¹) := by clear j2 j3; grind
      rw [this, j2, j3]; clear j2 j3 i2 i3; grind
    have := f_cancel m3 (f_cancel m2 this)
    grind
theorem chi_add (h : EsC c e) (h2 : (2 : F) ≠ 0) {P Q : Pt F} (hP : OnC (wA c e) (wB c e) P) (hQ : OnC (wA c e) (wB c e) Q) :
    chi c e (padd (wA c e) P Q) = eadd (3 * e + 2 * c) (3 * e - 2 * c) (chi c e P) (chi c e Q) := by
  cases P with
  | none => show chi c e Q = eadd _ _ ezero _; rw [eadd_comm, eadd_zero]
  | some P =>
  cases Q with
  | none => show chi c e (some P) = eadd _ _ _ ezero; rw [eadd_zero]
  | some Q =>
  obtain ⟨X1, V1⟩ := P
  obtain ⟨X2, V2⟩ := Q
  obtain ⟨U1, rfl⟩ : ∃ U, X1 = U + e := ⟨X1 - e, by grind⟩
  obtain ⟨U2, rfl⟩ : ∃ U, X2 = U + e := ⟨X2 - e, by grind⟩
  by_cases hn : U1 + e = U2 + e ∧ V1 + V2 = 0
  · rw [padd_eq, if_pos hn]
    have t : U1 = U2 := by grind
    subst t
    have t : V2 = -V1 := by grind
    subst t
    have := eadd_neg h.ed (chi_on h hP)
    rw [← chi_neg] at this
    exact this.symm
  · by_cases z1 : V1 = 0
    · subst z1; exact chi_T h h2 hP hQ hn
    · by_cases z2 : V2 = 0
      · subst z2
        rw [padd_comm h2 hP hQ, eadd_comm]
        exact chi_T h h2 hQ hP (fun q => hn ⟨q.1.symm, by grind⟩)
      · obtain ⟨U3, V3, l, n, p, o3, e1, e2, e3, s1, s2, s3⟩ := line_ex h2 hP hQ hn
        rw [p]
        by_cases z3 : V3 = 0
        · have u3 := (w_0 h (w_on o3)).mp z3
          subst z3
          have q1 := chi_on h hP
          have q2 := chi_on h hQ
          rw [chi_0]
          rw [chi_some z1] at q1 ⊢
          rw [chi_some z2] at q2 ⊢
          have n0 : n = 0 := by
            have : n * n = 0 := by rw [s3, u3]; grind
            rcases f_dom this with q | q <;> exact q
          subst n0 u3
          have c0 := h.c0
          have s2 : c * c = U1 * U2 := by grind
          have i1 := Field.mul_inv_cancel z1
          have i2 := Field.mul_inv_cancel z2
          have j1 := Field.mul_inv_cancel (w_m h (w_on hP))
          have j2 := Field.mul_inv_cancel (w_m h (w_on hQ))
          have m1 := w_m h (w_on hP)
          have m2 := w_m h (w_on hQ)
          have e1 : V1 = l * U1 := by grind
          have e2 : V2 = l * U2 := by grind
          have dm := Field.mul_inv_cancel (ed_m h.ed q1 q2)
          have hx : U2 * V2⁻¹ = U1 * V1⁻¹ := by
            have : V1 * (V2 * (U2 * V2⁻¹ - U1 * V1⁻¹)) = 0 := by
              have : V1 * (V2 * (U2 * V2⁻¹ - U1 * V1⁻¹)) = V1 * U2 * (V2 * V2⁻¹) - V2 * U1 * (V1 * V1⁻¹) := by clear i1 i2 dm j1 j2; grind
              rw [this, i1, i2, e1, e2]; clear i1 i2 dm j1 j2; grind
            have := f_cancel z2 (f_cancel z1 this)
            grind
          have hy : (U2 - c) * (U2 + c)⁻¹ = -((U1 - c) * (U1 + c)⁻¹) := by
            have : (U1 + c) * ((U2 + c) * ((U2 - c) * (U2 + c)⁻¹ + (U1 - c) * (U1 + c)⁻¹)) = 0 := by
              have : (U1 + c) * ((U2 + c) * ((U2 - c) * (U2 + c)⁻¹ + (U1 - c) * (U1 + c)⁻¹)) = (U1 + c) * (U2 - c) * ((U2 + c) * (U2 + c)⁻¹) + (U2 + c) * (U1 - c) * ((U1 + c) * (U1 + c)⁻¹) := by clear i1 i2 dm j1 j2; grind
              rw [this, j1, j2]; clear j1 j2 i1 i2 dm; grind
            have := f_cancel m2 (f_cancel m1 this)
            grind
          rw [hx, hy] at dm ⊢
          clear hx hy q2 i1 i2 j1 j2 m1 m2 e1 e2 s2 hn p o3 hP hQ
          generalize U1 * V1⁻¹ = x at *
          generalize (U1 - c) * (U1 + c)⁻¹ = y at *
          have q1 : (3 * e + 2 * c) * x * x + y * y = 1 + (3 * e - 2 * c) * x * x * y * y := q1
          unfold eadd
          show (0, -1) = ((x * -y + y * x) * (1 + (3 * e - 2 * c) * x * x * y * -y)⁻¹, (y * -y - (3 * e + 2 * c) * x * x) * (1 - (3 * e - 2 * c) * x * x * y * -y)⁻¹)
          have dm : (1 - (3 * e - 2 * c) * x * x * y * -y) * (1 - (3 * e - 2 * c) * x * x * y * -y)⁻¹ = 1 := dm
          have t1 : x * -y + y * x = 0 := by grind
          have t2 : y * -y - (3 * e + 2 * c) * x * x = -(1 - (3 * e - 2 * c) * x * x * y * -y) := by grind
          rw [t1, t2]
          generalize (1 + (3 * e - 2 * c) * x * x * y * -y)⁻¹ = A at *
          generalize (1 - (3 * e - 2 * c) * x * x * y * -y) = B at *
          congr 1
          · grind
          · grind
        · exact (chi_line h (w_on hP) (w_on hQ) (w_on o3) z1 z2 z3 e1 e2 e3 s1 s2 s3).symm
/-! ### and back -/
open Classical in
theorem psi_eq (x y : F) : psi c e (x, y) = if x = 0 then (if y = 1 then none else some (e, 0)) else some (c * (1 + y) * (1 - y)⁻¹ + e, c * (1 + y) * (1 - y)⁻¹ * x⁻¹) := rfl
theorem e_ym (h : EsC c e) {x y : F} (o : OnE (3 * e + 2 * c) (3 * e - 2 * c) (x, y)) (hx : x ≠ 0) : 1 - y ≠ 0 ∧ 1 + y ≠ 0 := by
  have o : (3 * e + 2 * c) * x * x + y * y = 1 + (3 * e - 2 * c) * x * x * y * y := o
  have c0 := h.c0
  have two := h.ed.two
  have k : y * y = 1 → False := by
    intro q
    rw [q] at o
    have : 2 * (2 * (c * (x * x))) = 0 := by grind
    have := f_cancel c0 (f_cancel two (f_cancel two this))
    exact hx (f_cancel hx this)
  exact ⟨fun q => k (by have : y = 1 := by grind
                        rw [this]; grind), fun q => k (by have : y = -1 := by grind
                                                          rw [this]; grind)⟩
/-- the numbers of a point that is no point of order two -/
theorem psi_v (h : EsC c e) {x y : F} (o : OnE (3 * e + 2 * c) (3 * e - 2 * c) (x, y)) (hx : x ≠ 0) :
    ∃ U V, psi c e (x, y) = some (U + e, V) ∧ U = c * (1 + y) * (1 - y)⁻¹ ∧ V = U * x⁻¹ ∧ U * (1 - y) = c * (1 + y) ∧ V * x = U ∧ U ≠ 0 ∧ V ≠ 0 ∧ V * V = U * U * U + 3 * e * U * U + c * c * U := by
  obtain ⟨m, p⟩ := e_ym h o hx
  have o : (3 * e + 2 * c) * x * x + y * y = 1 + (3 * e - 2 * c) * x * x * y * y := o
  have i := Field.mul_inv_cancel hx
  have j := Field.mul_inv_cancel m
  have c0 := h.c0
  obtain ⟨U, hU⟩ : ∃ U, U = c * (1 + y) * (1 - y)⁻¹ := ⟨_, rfl⟩
  obtain ⟨V, hV⟩ : ∃ V, V = U * x⁻¹ := ⟨_, rfl⟩
  have k1 : U * (1 - y) = c * (1 + y) := by rw [hU]; grind
  have k2 : V * x = U := by rw [hV]; grind
  have u0 : U ≠ 0 := by
    rintro rfl
    have : c * (1 + y) = 0 := by rw [← k1]; grind
    exact p (f_cancel c0 this)
  have v0 : V ≠ 0 := by
    rintro rfl
    exact u0 (by rw [← k2]; grind)
  refine ⟨U, V, ?_, hU, hV, k1, k2, u0, v0, ?_⟩
  · rw [psi_eq, if_neg hx, ← hU, ← hV]
  · clear hU hV i j
    have : x * (x * ((1 - y) * ((1 - y) * (V * V - (U * U * U + 3 * e * U * U + c * c * U))))) = 0 := by
      have t1 : x * (x * ((1 - y) * ((1 - y) * (V * V - (U * U * U + 3 * e * U * U + c * c * U))))) = (V * x) * (V * x) * ((1 - y) * (1 - y)) - x * x * U * ((U * (1 - y)) * (U * (1 - y)) + 3 * e * (U * (1 - y)) * (1 - y) + c * c * ((1 - y) * (1 - y))) := by clear k1 k2 o; grind
      rw [t1, k2, k1]
      have t2 : U * U * ((1 - y) * (1 - y)) = (U * (1 - y)) * (c * (1 + y)) := by rw [← k1]; clear k1 k2 o; grind
      rw [t2]
      have t3 : U * (1 - y) * (c * (1 + y)) - x * x * U * (c * (1 + y) * (c * (1 + y)) + 3 * e * (c * (1 + y)) * (1 - y) + c * c * ((1 - y) * (1 - y))) = U * c * ((1 - y) * (1 + y) - x * x * (c * (1 + y) * (1 + y) + 3 * e * (1 + y) * (1 - y) + c * ((1 - y) * (1 - y)))) := by clear k1 k2 o t1 t2; grind
      rw [t3]
      have t4 : (1 - y) * (1 + y) - x * x * (c * (1 + y) * (1 + y) + 3 * e * (1 + y) * (1 - y) + c * ((1 - y) * (1 - y))) = 0 := by clear t1 t2 t3 k1 k2; grind
      rw [t4]; grind
    have := f_cancel m (f_cancel m (f_cancel hx (f_cancel hx this)))
    grind
theorem psi_0 (h : EsC c e) {y : F} (o : OnE (3 * e + 2 * c) (3 * e - 2 * c) (0, y)) : (y = 1 ∧ psi c e (0, y) = none) ∨ (y = -1 ∧ psi c e (0, y) = some (e, 0)) := by
  have o : (3 * e + 2 * c) * 0 * 0 + y * y = 1 + (3 * e - 2 * c) * 0 * 0 * y * y := o
  by_cases q : y = 1
  · exact .inl ⟨q, by rw [psi_eq, if_pos rfl, if_pos q]⟩
  · refine .inr ⟨?_, by rw [psi_eq, if_pos rfl, if_neg q]⟩
    have : (y - 1) * (y + 1) = 0 := by grind
    have := f_cancel (show y - 1 ≠ 0 from fun z => q (by grind)) this
    grind
theorem psi_on (h : EsC c e) {p : F × F} (o : OnE (3 * e + 2 * c) (3 * e - 2 * c) p) : OnC (wA c e) (wB c e) (psi c e p) := by
  obtain ⟨x, y⟩ := p
  by_cases hx : x = 0
  · subst hx
    rcases psi_0 h o with ⟨_, q⟩ | ⟨_, q⟩
    · rw [q]; trivial
    · rw [q]
      show (0 : F) * 0 = e * e * e + (c * c - 3 * e * e) * e + (2 * e * e * e - c * c * e)
      grind
  · obtain ⟨U, V, q, _, _, _, _, _, _, w⟩ := psi_v h o hx
    rw [q]; exact on_w w
theorem chi_psi (h : EsC c e) {p : F × F} (o : OnE (3 * e + 2 * c) (3 * e - 2 * c) p) : chi c e (psi c e p) = p := by
  obtain ⟨x, y⟩ := p
  by_cases hx : x = 0
  · subst hx
    rcases psi_0 h o with ⟨t, q⟩ | ⟨t, q⟩
    · rw [q, t]; rfl
    · rw [q, t, chi_0]
  · obtain ⟨U, V, q, _, _, k1, k2, u0, v0, w⟩ := psi_v h o hx
    have i := Field.mul_inv_cancel v0
    have j := Field.mul_inv_cancel (w_m h w)
    rw [q, chi_some v0]
    have a1 : U * V⁻¹ = x := by rw [← k2]; grind
    have a2 : (U - c) * (U + c)⁻¹ = y := by
      have : U - c = y * (U + c) := by grind
      rw [this]; grind
    rw [a1, a2]
theorem psi_chi (h : EsC c e) {P : Pt F} (o : OnC (wA c e) (wB c e) P) : psi c e (chi c e P) = P := by
  have two := h.ed.two
  have c0 := h.c0
  cases P with
  | none =>
    show psi c e (0, 1) = none
    rw [psi_eq, if_pos rfl, if_pos rfl]
  | some P =>
    obtain ⟨X, V⟩ := P
    obtain ⟨U, rfl⟩ : ∃ U, X = U + e := ⟨X - e, by grind⟩
    by_cases hV : V = 0
    · have u0 := (w_0 h (w_on o)).mp hV
      subst hV u0
      rw [chi_0, psi_eq, if_pos rfl, if_neg (fun q : (-1 : F) = 1 => two (by grind))]
      congr 2; grind
    · have u0 := mt (w_0 h (w_on o)).mpr hV
      have m := w_m h (w_on o)
      have i := Field.mul_inv_cancel hV
      have j := Field.mul_inv_cancel m
      rw [chi_some hV]
      have x0 : U * V⁻¹ ≠ 0 := by
        intro q
        exact u0 (by
          have : U = U * V⁻¹ * V := by grind
          rw [this, q]; grind)
      rw [psi_eq, if_neg x0]
      have ix := Field.mul_inv_cancel x0
      obtain ⟨y, hy⟩ : ∃ y, y = (U - c) * (U + c)⁻¹ := ⟨_, rfl⟩
      rw [← hy]
      have ky : y * (U + c) = U - c := by rw [hy]; grind
      have my : 1 - y ≠ 0 := by
        intro q
        have : y = 1 := by grind
        rw [this] at ky
        exact c0 (f_cancel two (by grind))
      have jy := Field.mul_inv_cancel my
      have a1 : c * (1 + y) * (1 - y)⁻¹ = U := by
        have : (1 - y) * (c * (1 + y) * (1 - y)⁻¹ - U) = 0 := by
          have : c * (1 + y) = U * (1 - y) := by clear ix jy i j hy; grind
          rw [this]; clear ix i j hy ky; grind
        have := f_cancel my this
        grind
      have a2 : U * (U * V⁻¹)⁻¹ = V := by
        have : U = V * (U * V⁻¹) := by grind
        have : U * (U * V⁻¹)⁻¹ = V * (U * V⁻¹ * (U * V⁻¹)⁻¹) := by
          conv => lhs; arg 1; rw [this]
          clear ix jy i j hy ky this; grind
        rw [this, ix]; grind
      rw [a1, a2]
theorem psi_add (h : EsC c e) (h2 : (2 : F) ≠ 0) {p q : F × F} (hp : OnE (3 * e + 2 * c) (3 * e - 2 * c) p) (hq : OnE (3 * e + 2 * c) (3 * e - 2 * c) q) :
    padd (wA c e) (psi c e p) (psi c e q) = psi c e (eadd (3 * e + 2 * c) (3 * e - 2 * c) p q) := by
  have a := psi_on h hp
  have b := psi_on h hq
  rw [← psi_chi h (padd_on h2 a b), chi_add h h2 a b, chi_psi h hp, chi_psi h hq]
end
end Mi
set_option maxHeartbeats 4000000
namespace Mi
open PySem PySem.Spec L2
def topS (i : Nat) : Stmt := PySem.Challenge.pw_curveseal_k21_shapes_of_a_curve.main.body.getD i (.Pass ⟨0, 0, 0, 0⟩)

structure O_Curve where
  f_prime : Int
  f_a : Int
  f_b : Int
instance : ToD O_Curve := ⟨fun x => .obj "Curve" ["prime", "a", "b"] [toD x.f_prime, toD x.f_a, toD x.f_b]⟩
structure O_EdwardsCurve where
  f_prime : Int
  f_a : Int
  f_d : Int
instance : ToD O_EdwardsCurve := ⟨fun x => .obj "EdwardsCurve" ["prime", "a", "d"] [toD x.f_prime, toD x.f_a, toD x.f_d]⟩
abbrev s_is_whole : Stmt := topS 9
theorem sc_is_whole : FnScope ["value"] ["value"] (defScope s_is_whole) := ⟨rfl, rfl, rfl, by decide +kernel, rfl, by decide +kernel, by decide +kernel⟩
abbrev s_is_residue : Stmt := topS 11
theorem sc_is_residue : FnScope ["value", "modulus"] ["value", "modulus"] (defScope s_is_residue) := ⟨rfl, rfl, rfl, by decide +kernel, rfl, by decide +kernel, by decide +kernel⟩
abbrev s_is_residue_pair : Stmt := topS 12
theorem sc_is_residue_pair : FnScope ["value", "modulus", "item"] ["value", "modulus"] (defScope s_is_residue_pair) := ⟨rfl, rfl, rfl, by decide +kernel, rfl, by decide +kernel, by decide +kernel⟩
abbrev s_bezout : Stmt := topS 13
theorem sc_bezout : FnScope ["a", "b", "first", "second", "times", "rest"] ["a", "b"] (defScope s_bezout) := ⟨rfl, rfl, rfl, by decide +kernel, rfl, by decide +kernel, by decide +kernel⟩
abbrev s_inverse : Stmt := topS 14
theorem sc_inverse : FnScope ["a", "modulus", "divisor", "factor", "_"] ["a", "modulus"] (defScope s_inverse) := ⟨rfl, rfl, rfl, by decide +kernel, rfl, by decide +kernel, by decide +kernel⟩
abbrev s_power : Stmt := topS 15
theorem sc_power : FnScope ["a", "exponent", "modulus", "result", "square", "rest"] ["a", "exponent", "modulus"] (defScope s_power) := ⟨rfl, rfl, rfl, by decide +kernel, rfl, by decide +kernel, by decide +kernel⟩
abbrev s_square_class : Stmt := topS 16
theorem sc_square_class : FnScope ["a", "prime"] ["a", "prime"] (defScope s_square_class) := ⟨rfl, rfl, rfl, by decide +kernel, rfl, by decide +kernel, by decide +kernel⟩
abbrev s_split_twos : Stmt := topS 17
theorem sc_split_twos : FnScope ["number", "twos"] ["number"] (defScope s_split_twos) := ⟨rfl, rfl, rfl, by decide +kernel, rfl, by decide +kernel, by decide +kernel⟩
abbrev s_square_root : Stmt := topS 18
theorem sc_square_root : FnScope ["a", "prime", "kind", "root"] ["a", "prime"] (defScope s_square_root) := ⟨rfl, rfl, rfl, by decide +kernel, rfl, by decide +kernel, by decide +kernel⟩
abbrev s_u_root_of_square : Stmt := topS 19
theorem sc_u_root_of_square : FnScope ["a", "prime", "odd", "twos", "root", "rest", "helper", "level"] ["a", "prime"] (defScope s_u_root_of_square) := ⟨rfl, rfl, rfl, by decide +kernel, rfl, by decide +kernel, by decide +kernel⟩
abbrev s_u_non_square : Stmt := topS 20
theorem sc_u_non_square : FnScope ["prime", "number"] ["prime"] (defScope s_u_non_square) := ⟨rfl, rfl, rfl, by decide +kernel, rfl, by decide +kernel, by decide +kernel⟩
abbrev s_root_with_parity : Stmt := topS 21
theorem sc_root_with_parity : FnScope ["a", "prime", "odd", "root"] ["a", "prime", "odd"] (defScope s_root_with_parity) := ⟨rfl, rfl, rfl, by decide +kernel, rfl, by decide +kernel, by decide +kernel⟩
abbrev s_Curve_init : Stmt := inClass (topS 23) 0
theorem sc_Curve_init : FnScope ["self", "prime", "a", "b"] ["self", "prime", "a", "b"] (defScope s_Curve_init) := ⟨rfl, rfl, rfl, by decide +kernel, rfl, by decide +kernel, by decide +kernel⟩
abbrev s_Curve_has : Stmt := inClass (topS 23) 1
theorem sc_Curve_has : FnScope ["self", "point"] ["self", "point"] (defScope s_Curve_has) := ⟨rfl, rfl, rfl, by decide +kernel, rfl, by decide +kernel, by decide +kernel⟩
abbrev s_Curve_u_right_side : Stmt := inClass (topS 23) 2
theorem sc_Curve_u_right_side : FnScope ["self", "x"] ["self", "x"] (defScope s_Curve_u_right_side) := ⟨rfl, rfl, rfl, by decide +kernel, rfl, by decide +kernel, by decide +kernel⟩
abbrev s_Curve_negate : Stmt := inClass (topS 23) 3
theorem sc_Curve_negate : FnScope ["self", "point"] ["self", "point"] (defScope s_Curve_negate) := ⟨rfl, rfl, rfl, by decide +kernel, rfl, by decide +kernel, by decide +kernel⟩
abbrev s_Curve_add : Stmt := inClass (topS 23) 4
theorem sc_Curve_add : FnScope ["self", "first", "second", "slope", "x"] ["self", "first", "second"] (defScope s_Curve_add) := ⟨rfl, rfl, rfl, by decide +kernel, rfl, by decide +kernel, by decide +kernel⟩
abbrev s_Curve_u_slope : Stmt := inClass (topS 23) 5
theorem sc_Curve_u_slope : FnScope ["self", "first", "second", "rise", "run"] ["self", "first", "second"] (defScope s_Curve_u_slope) := ⟨rfl, rfl, rfl, by decide +kernel, rfl, by decide +kernel, by decide +kernel⟩
abbrev s_Curve_lift : Stmt := inClass (topS 23) 8
theorem sc_Curve_lift : FnScope ["self", "x", "odd", "y"] ["self", "x", "odd"] (defScope s_Curve_lift) := ⟨rfl, rfl, rfl, by decide +kernel, rfl, by decide +kernel, by decide +kernel⟩
abbrev s_montgomery_numbers : Stmt := topS 25
theorem sc_montgomery_numbers : FnScope ["curve", "p", "scale"] ["curve"] (defScope s_montgomery_numbers) := ⟨rfl, rfl, rfl, by decide +kernel, rfl, by decide +kernel, by decide +kernel⟩
abbrev s_to_montgomery : Stmt := topS 26
theorem sc_to_montgomery : FnScope ["curve", "point", "x", "y", "p", "u"] ["curve", "point"] (defScope s_to_montgomery) := ⟨rfl, rfl, rfl, by decide +kernel, rfl, by decide +kernel, by decide +kernel⟩
abbrev s_from_montgomery : Stmt := topS 27
theorem sc_from_montgomery : FnScope ["curve", "pair", "p", "u", "v"] ["curve", "pair"] (defScope s_from_montgomery) := ⟨rfl, rfl, rfl, by decide +kernel, rfl, by decide +kernel, by decide +kernel⟩
abbrev s_u_on_montgomery : Stmt := topS 28
theorem sc_u_on_montgomery : FnScope ["curve", "pair", "u", "v", "a", "b"] ["curve", "pair"] (defScope s_u_on_montgomery) := ⟨rfl, rfl, rfl, by decide +kernel, rfl, by decide +kernel, by decide +kernel⟩
abbrev s_weierstrass_of : Stmt := topS 29
theorem sc_weierstrass_of : FnScope ["curve", "p", "a", "b", "new_a", "new_b"] ["curve"] (defScope s_weierstrass_of) := ⟨rfl, rfl, rfl, by decide +kernel, rfl, by decide +kernel, by decide +kernel⟩
abbrev s_u_check_prime : Stmt := topS 30
theorem sc_u_check_prime : FnScope ["curve"] ["curve"] (defScope s_u_check_prime) := ⟨rfl, rfl, rfl, by decide +kernel, rfl, by decide +kernel, by decide +kernel⟩
abbrev s_to_weierstrass : Stmt := topS 31
theorem sc_to_weierstrass : FnScope ["curve", "point", "pair", "p", "a", "b", "scale"] ["curve", "point"] (defScope s_to_weierstrass) := ⟨rfl, rfl, rfl, by decide +kernel, rfl, by decide +kernel, by decide +kernel⟩
abbrev s_from_weierstrass : Stmt := topS 32
theorem sc_from_weierstrass : FnScope ["curve", "point", "p", "a", "b"] ["curve", "point"] (defScope s_from_weierstrass) := ⟨rfl, rfl, rfl, by decide +kernel, rfl, by decide +kernel, by decide +kernel⟩
abbrev s_EdwardsCurve_init : Stmt := inClass (topS 34) 0
theorem sc_EdwardsCurve_init : FnScope ["self", "prime", "a", "d"] ["self", "prime", "a", "d"] (defScope s_EdwardsCurve_init) := ⟨rfl, rfl, rfl, by decide +kernel, rfl, by decide +kernel, by decide +kernel⟩
abbrev s_EdwardsCurve_has : Stmt := inClass (topS 34) 1
theorem sc_EdwardsCurve_has : FnScope ["self", "point", "x_square", "y_square"] ["self", "point"] (defScope s_EdwardsCurve_has) := ⟨rfl, rfl, rfl, by decide +kernel, rfl, by decide +kernel, by decide +kernel⟩
abbrev s_EdwardsCurve_negate : Stmt := inClass (topS 34) 2
theorem sc_EdwardsCurve_negate : FnScope ["self", "point"] ["self", "point"] (defScope s_EdwardsCurve_negate) := ⟨rfl, rfl, rfl, by decide +kernel, rfl, by decide +kernel, by decide +kernel⟩
abbrev s_EdwardsCurve_add : Stmt := inClass (topS 34) 3
theorem sc_EdwardsCurve_add : FnScope ["self", "first", "second", "x1", "y1", "x2", "y2", "t", "x3", "y3"] ["self", "first", "second"] (defScope s_EdwardsCurve_add) := ⟨rfl, rfl, rfl, by decide +kernel, rfl, by decide +kernel, by decide +kernel⟩
abbrev s_EdwardsCurve_lift : Stmt := inClass (topS 34) 6
theorem sc_EdwardsCurve_lift : FnScope ["self", "y", "odd", "divisor", "x_square", "x"] ["self", "y", "odd"] (defScope s_EdwardsCurve_lift) := ⟨rfl, rfl, rfl, by decide +kernel, rfl, by decide +kernel, by decide +kernel⟩
abbrev s_u_law_cell : Stmt := topS 36
theorem sc_u_law_cell : FnScope ["script", "k"] ["script", "k"] (defScope s_u_law_cell) := ⟨rfl, rfl, rfl, by decide +kernel, rfl, by decide +kernel, by decide +kernel⟩
abbrev s_u_law_is_integer : Stmt := topS 37
theorem sc_u_law_is_integer : FnScope ["actual"] ["actual"] (defScope s_u_law_is_integer) := ⟨rfl, rfl, rfl, by decide +kernel, rfl, by decide +kernel, by decide +kernel⟩
abbrev s_u_law_is_prime : Stmt := topS 38
theorem sc_u_law_is_prime : FnScope ["n", "divisor", "k"] ["n"] (defScope s_u_law_is_prime) := ⟨rfl, rfl, rfl, by decide +kernel, rfl, by decide +kernel, by decide +kernel⟩
abbrev s_u_law_prime : Stmt := topS 39
theorem sc_u_law_prime : FnScope ["cell", "least", "rest", "number", "k"] ["cell", "least"] (defScope s_u_law_prime) := ⟨rfl, rfl, rfl, by decide +kernel, rfl, by decide +kernel, by decide +kernel⟩
abbrev s_u_law_power : Stmt := topS 40
theorem sc_u_law_power : FnScope ["a", "exponent", "modulus", "result", "square", "k"] ["a", "exponent", "modulus"] (defScope s_u_law_power) := ⟨rfl, rfl, rfl, by decide +kernel, rfl, by decide +kernel, by decide +kernel⟩
abbrev s_u_law_inverse : Stmt := topS 41
theorem sc_u_law_inverse : FnScope ["a", "prime"] ["a", "prime"] (defScope s_u_law_inverse) := ⟨rfl, rfl, rfl, by decide +kernel, rfl, by decide +kernel, by decide +kernel⟩
abbrev s_u_law_residue : Stmt := topS 42
theorem sc_u_law_residue : FnScope ["cell", "prime", "rest"] ["cell", "prime"] (defScope s_u_law_residue) := ⟨rfl, rfl, rfl, by decide +kernel, rfl, by decide +kernel, by decide +kernel⟩
abbrev s_u_law_class : Stmt := topS 43
theorem sc_u_law_class : FnScope ["a", "prime", "value"] ["a", "prime"] (defScope s_u_law_class) := ⟨rfl, rfl, rfl, by decide +kernel, rfl, by decide +kernel, by decide +kernel⟩
abbrev s_u_law_edwards_prime : Stmt := topS 44
theorem sc_u_law_edwards_prime : FnScope ["cell", "high"] ["cell"] (defScope s_u_law_edwards_prime) := ⟨rfl, rfl, rfl, by decide +kernel, rfl, by decide +kernel, by decide +kernel⟩
abbrev s_u_law_numbers : Stmt := topS 45
theorem sc_u_law_numbers : FnScope ["script", "at", "prime", "root", "other", "lowest", "k"] ["script", "at", "prime"] (defScope s_u_law_numbers) := ⟨rfl, rfl, rfl, by decide +kernel, rfl, by decide +kernel, by decide +kernel⟩
abbrev s_u_law_on : Stmt := topS 46
theorem sc_u_law_on : FnScope ["prime", "a", "d", "point", "x", "y"] ["prime", "a", "d", "point"] (defScope s_u_law_on) := ⟨rfl, rfl, rfl, by decide +kernel, rfl, by decide +kernel, by decide +kernel⟩
abbrev s_u_law_lifted : Stmt := topS 47
theorem sc_u_law_lifted : FnScope ["curve", "prime", "a", "d", "cell", "y", "k", "point"] ["curve", "prime", "a", "d", "cell"] (defScope s_u_law_lifted) := ⟨rfl, rfl, rfl, by decide +kernel, rfl, by decide +kernel, by decide +kernel⟩
abbrev s_u_law_add : Stmt := topS 48
theorem sc_u_law_add : FnScope ["prime", "a", "d", "first", "second", "x1", "y1", "x2", "y2", "t", "x3", "y3"] ["prime", "a", "d", "first", "second"] (defScope s_u_law_add) := ⟨rfl, rfl, rfl, by decide +kernel, rfl, by decide +kernel, by decide +kernel⟩
abbrev s_u_law_montgomery : Stmt := topS 49
theorem sc_u_law_montgomery : FnScope ["prime", "a", "d", "point", "x", "y", "u"] ["prime", "a", "d", "point"] (defScope s_u_law_montgomery) := ⟨rfl, rfl, rfl, by decide +kernel, rfl, by decide +kernel, by decide +kernel⟩
abbrev s_u_law_told : Stmt := topS 50
theorem sc_u_law_told : FnScope ["which", "curve", "pair", "e"] ["which", "curve", "pair"] (defScope s_u_law_told) := ⟨rfl, rfl, rfl, by decide +kernel, rfl, by decide +kernel, by decide +kernel⟩
abbrev s_u_law_numbers_due : Stmt := topS 51
theorem sc_u_law_numbers_due : FnScope ["prime", "a", "d", "back"] ["prime", "a", "d"] (defScope s_u_law_numbers_due) := ⟨rfl, rfl, rfl, by decide +kernel, rfl, by decide +kernel, by decide +kernel⟩
abbrev s_u_law_shape : Stmt := topS 52
theorem sc_u_law_shape : FnScope ["prime", "big", "small", "first", "second"] ["prime", "big", "small"] (defScope s_u_law_shape) := ⟨rfl, rfl, rfl, by decide +kernel, rfl, by decide +kernel, by decide +kernel⟩
abbrev s_u_law_right_point : Stmt := topS 53
theorem sc_u_law_right_point : FnScope ["curve", "prime", "a", "d", "point", "big", "small", "pair", "image", "u", "v", "x"] ["curve", "prime", "a", "d", "point"] (defScope s_u_law_right_point) := ⟨rfl, rfl, rfl, by decide +kernel, rfl, by decide +kernel, by decide +kernel⟩
abbrev s_law : Stmt := topS 54
theorem sc_law : FnScope ["script", "prime", "a", "d", "curve", "big", "small", "other", "first", "second", "kind", "point", "total", "u", "v", "on"] ["script"] (defScope s_law) := ⟨rfl, rfl, rfl, by decide +kernel, rfl, by decide +kernel, by decide +kernel⟩
def errs : List Str := ["CurveError", "OutOfRange", "Malformed", "NotAPoint", "NoInverse", "Refused"]
def ancE : List (Str × List Str) := [("CurveError", ["CurveError"]), ("OutOfRange", ["OutOfRange", "CurveError"]), ("Malformed", ["Malformed", "CurveError"]), ("NotAPoint", ["NotAPoint", "CurveError"]), ("NoInverse", ["NoInverse", "CurveError"]), ("Refused", ["Refused", "CurveError"])]
def subE (c d : Str) : Bool := match ancE.lookup c with | some l => decide (d ∈ l) | none => false
abbrev FnP (K : PySem.W.Frag) (x q : Str) (st : Stmt) (f : Addr) (fd : FuncData) : Prop := FunD K x q (defArgs st) (defBody st) (defScope st) [] [] f fd
structure Facts (K : PySem.W.Frag) (mg : Str → Option Value) : Prop where
  d_is_whole : ∃ fd, FnP K "is_whole" "is_whole" s_is_whole (He.ga K "is_whole") fd
  g_is_whole : mg "is_whole" = some (.ref (He.ga K "is_whole"))
  d_is_residue : ∃ fd, FnP K "is_residue" "is_residue" s_is_residue (He.ga K "is_residue") fd
  g_is_residue : mg "is_residue" = some (.ref (He.ga K "is_residue"))
  d_is_residue_pair : ∃ fd, FnP K "is_residue_pair" "is_residue_pair" s_is_residue_pair (He.ga K "is_residue_pair") fd
  g_is_residue_pair : mg "is_residue_pair" = some (.ref (He.ga K "is_residue_pair"))
  d_bezout : ∃ fd, FnP K "bezout" "bezout" s_bezout (He.ga K "bezout") fd
  g_bezout : mg "bezout" = some (.ref (He.ga K "bezout"))
  d_inverse : ∃ fd, FnP K "inverse" "inverse" s_inverse (He.ga K "inverse") fd
  g_inverse : mg "inverse" = some (.ref (He.ga K "inverse"))
  d_power : ∃ fd, FnP K "power" "power" s_power (He.ga K "power") fd
  g_power : mg "power" = some (.ref (He.ga K "power"))
  d_square_class : ∃ fd, FnP K "square_class" "square_class" s_square_class (He.ga K "square_class") fd
  g_square_class : mg "square_class" = some (.ref (He.ga K "square_class"))
  d_split_twos : ∃ fd, FnP K "split_twos" "split_twos" s_split_twos (He.ga K "split_twos") fd
  g_split_twos : mg "split_twos" = some (.ref (He.ga K "split_twos"))
  d_square_root : ∃ fd, FnP K "square_root" "square_root" s_square_root (He.ga K "square_root") fd
  g_square_root : mg "square_root" = some (.ref (He.ga K "square_root"))
  d_u_root_of_square : ∃ fd, FnP K "_root_of_square" "_root_of_square" s_u_root_of_square (He.ga K "_root_of_square") fd
  g_u_root_of_square : mg "_root_of_square" = some (.ref (He.ga K "_root_of_square"))
  d_u_non_square : ∃ fd, FnP K "_non_square" "_non_square" s_u_non_square (He.ga K "_non_square") fd
  g_u_non_square : mg "_non_square" = some (.ref (He.ga K "_non_square"))
  d_root_with_parity : ∃ fd, FnP K "root_with_parity" "root_with_parity" s_root_with_parity (He.ga K "root_with_parity") fd
  g_root_with_parity : mg "root_with_parity" = some (.ref (He.ga K "root_with_parity"))
  d_Curve_init : ∃ fd, FnP K "__init__" "Curve.__init__" s_Curve_init (He.ma K (He.ga K "Curve") "__init__") fd
  d_Curve_has : ∃ fd, FnP K "has" "Curve.has" s_Curve_has (He.ma K (He.ga K "Curve") "has") fd
  d_Curve_u_right_side : ∃ fd, FnP K "_right_side" "Curve._right_side" s_Curve_u_right_side (He.ma K (He.ga K "Curve") "_right_side") fd
  d_Curve_negate : ∃ fd, FnP K "negate" "Curve.negate" s_Curve_negate (He.ma K (He.ga K "Curve") "negate") fd
  d_Curve_add : ∃ fd, FnP K "add" "Curve.add" s_Curve_add (He.ma K (He.ga K "Curve") "add") fd
  d_Curve_u_slope : ∃ fd, FnP K "_slope" "Curve._slope" s_Curve_u_slope (He.ma K (He.ga K "Curve") "_slope") fd
  d_Curve_lift : ∃ fd, FnP K "lift" "Curve.lift" s_Curve_lift (He.ma K (He.ga K "Curve") "lift") fd
  d_montgomery_numbers : ∃ fd, FnP K "montgomery_numbers" "montgomery_numbers" s_montgomery_numbers (He.ga K "montgomery_numbers") fd
  g_montgomery_numbers : mg "montgomery_numbers" = some (.ref (He.ga K "montgomery_numbers"))
  d_to_montgomery : ∃ fd, FnP K "to_montgomery" "to_montgomery" s_to_montgomery (He.ga K "to_montgomery") fd
  g_to_montgomery : mg "to_montgomery" = some (.ref (He.ga K "to_montgomery"))
  d_from_montgomery : ∃ fd, FnP K "from_montgomery" "from_montgomery" s_from_montgomery (He.ga K "from_montgomery") fd
  g_from_montgomery : mg "from_montgomery" = some (.ref (He.ga K "from_montgomery"))
  d_u_on_montgomery : ∃ fd, FnP K "_on_montgomery" "_on_montgomery" s_u_on_montgomery (He.ga K "_on_montgomery") fd
  g_u_on_montgomery : mg "_on_montgomery" = some (.ref (He.ga K "_on_montgomery"))
  d_weierstrass_of : ∃ fd, FnP K "weierstrass_of" "weierstrass_of" s_weierstrass_of (He.ga K "weierstrass_of") fd
  g_weierstrass_of : mg "weierstrass_of" = some (.ref (He.ga K "weierstrass_of"))
  d_u_check_prime : ∃ fd, FnP K "_check_prime" "_check_prime" s_u_check_prime (He.ga K "_check_prime") fd
  g_u_check_prime : mg "_check_prime" = some (.ref (He.ga K "_check_prime"))
  d_to_weierstrass : ∃ fd, FnP K "to_weierstrass" "to_weierstrass" s_to_weierstrass (He.ga K "to_weierstrass") fd
  g_to_weierstrass : mg "to_weierstrass" = some (.ref (He.ga K "to_weierstrass"))
  d_from_weierstrass : ∃ fd, FnP K "from_weierstrass" "from_weierstrass" s_from_weierstrass (He.ga K "from_weierstrass") fd
  g_from_weierstrass : mg "from_weierstrass" = some (.ref (He.ga K "from_weierstrass"))
  d_EdwardsCurve_init : ∃ fd, FnP K "__init__" "EdwardsCurve.__init__" s_EdwardsCurve_init (He.ma K (He.ga K "EdwardsCurve") "__init__") fd
  d_EdwardsCurve_has : ∃ fd, FnP K "has" "EdwardsCurve.has" s_EdwardsCurve_has (He.ma K (He.ga K "EdwardsCurve") "has") fd
  d_EdwardsCurve_negate : ∃ fd, FnP K "negate" "EdwardsCurve.negate" s_EdwardsCurve_negate (He.ma K (He.ga K "EdwardsCurve") "negate") fd
  d_EdwardsCurve_add : ∃ fd, FnP K "add" "EdwardsCurve.add" s_EdwardsCurve_add (He.ma K (He.ga K "EdwardsCurve") "add") fd
  d_EdwardsCurve_lift : ∃ fd, FnP K "lift" "EdwardsCurve.lift" s_EdwardsCurve_lift (He.ma K (He.ga K "EdwardsCurve") "lift") fd
  d_u_law_cell : ∃ fd, FnP K "_law_cell" "_law_cell" s_u_law_cell (He.ga K "_law_cell") fd
  g_u_law_cell : mg "_law_cell" = some (.ref (He.ga K "_law_cell"))
  d_u_law_is_integer : ∃ fd, FnP K "_law_is_integer" "_law_is_integer" s_u_law_is_integer (He.ga K "_law_is_integer") fd
  g_u_law_is_integer : mg "_law_is_integer" = some (.ref (He.ga K "_law_is_integer"))
  d_u_law_is_prime : ∃ fd, FnP K "_law_is_prime" "_law_is_prime" s_u_law_is_prime (He.ga K "_law_is_prime") fd
  g_u_law_is_prime : mg "_law_is_prime" = some (.ref (He.ga K "_law_is_prime"))
  d_u_law_prime : ∃ fd, FnP K "_law_prime" "_law_prime" s_u_law_prime (He.ga K "_law_prime") fd
  g_u_law_prime : mg "_law_prime" = some (.ref (He.ga K "_law_prime"))
  d_u_law_power : ∃ fd, FnP K "_law_power" "_law_power" s_u_law_power (He.ga K "_law_power") fd
  g_u_law_power : mg "_law_power" = some (.ref (He.ga K "_law_power"))
  d_u_law_inverse : ∃ fd, FnP K "_law_inverse" "_law_inverse" s_u_law_inverse (He.ga K "_law_inverse") fd
  g_u_law_inverse : mg "_law_inverse" = some (.ref (He.ga K "_law_inverse"))
  d_u_law_residue : ∃ fd, FnP K "_law_residue" "_law_residue" s_u_law_residue (He.ga K "_law_residue") fd
  g_u_law_residue : mg "_law_residue" = some (.ref (He.ga K "_law_residue"))
  d_u_law_class : ∃ fd, FnP K "_law_class" "_law_class" s_u_law_class (He.ga K "_law_class") fd
  g_u_law_class : mg "_law_class" = some (.ref (He.ga K "_law_class"))
  d_u_law_edwards_prime : ∃ fd, FnP K "_law_edwards_prime" "_law_edwards_prime" s_u_law_edwards_prime (He.ga K "_law_edwards_prime") fd
  g_u_law_edwards_prime : mg "_law_edwards_prime" = some (.ref (He.ga K "_law_edwards_prime"))
  d_u_law_numbers : ∃ fd, FnP K "_law_numbers" "_law_numbers" s_u_law_numbers (He.ga K "_law_numbers") fd
  g_u_law_numbers : mg "_law_numbers" = some (.ref (He.ga K "_law_numbers"))
  d_u_law_on : ∃ fd, FnP K "_law_on" "_law_on" s_u_law_on (He.ga K "_law_on") fd
  g_u_law_on : mg "_law_on" = some (.ref (He.ga K "_law_on"))
  d_u_law_lifted : ∃ fd, FnP K "_law_lifted" "_law_lifted" s_u_law_lifted (He.ga K "_law_lifted") fd
  g_u_law_lifted : mg "_law_lifted" = some (.ref (He.ga K "_law_lifted"))
  d_u_law_add : ∃ fd, FnP K "_law_add" "_law_add" s_u_law_add (He.ga K "_law_add") fd
  g_u_law_add : mg "_law_add" = some (.ref (He.ga K "_law_add"))
  d_u_law_montgomery : ∃ fd, FnP K "_law_montgomery" "_law_montgomery" s_u_law_montgomery (He.ga K "_law_montgomery") fd
  g_u_law_montgomery : mg "_law_montgomery" = some (.ref (He.ga K "_law_montgomery"))
  d_u_law_told : ∃ fd, FnP K "_law_told" "_law_told" s_u_law_told (He.ga K "_law_told") fd
  g_u_law_told : mg "_law_told" = some (.ref (He.ga K "_law_told"))
  d_u_law_numbers_due : ∃ fd, FnP K "_law_numbers_due" "_law_numbers_due" s_u_law_numbers_due (He.ga K "_law_numbers_due") fd
  g_u_law_numbers_due : mg "_law_numbers_due" = some (.ref (He.ga K "_law_numbers_due"))
  d_u_law_shape : ∃ fd, FnP K "_law_shape" "_law_shape" s_u_law_shape (He.ga K "_law_shape") fd
  g_u_law_shape : mg "_law_shape" = some (.ref (He.ga K "_law_shape"))
  d_u_law_right_point : ∃ fd, FnP K "_law_right_point" "_law_right_point" s_u_law_right_point (He.ga K "_law_right_point") fd
  g_u_law_right_point : mg "_law_right_point" = some (.ref (He.ga K "_law_right_point"))
  d_law : ∃ fd, FnP K "law" "law" s_law (He.ga K "law") fd
  g_law : mg "law" = some (.ref (He.ga K "law"))
  g_Curve : mg "Curve" = some (.ref (He.ga K "Curve"))
  cl_Curve : L2.Cls K (He.ga K "Curve")
  g_EdwardsCurve : mg "EdwardsCurve" = some (.ref (He.ga K "EdwardsCurve"))
  cl_EdwardsCurve : L2.Cls K (He.ga K "EdwardsCurve")
  nf_Curve_a : NoAttr K (He.ga K "Curve") "a"
  nf_Curve_b : NoAttr K (He.ga K "Curve") "b"
  nf_Curve_prime : NoAttr K (He.ga K "Curve") "prime"
  nf_EdwardsCurve_a : NoAttr K (He.ga K "EdwardsCurve") "a"
  nf_EdwardsCurve_d : NoAttr K (He.ga K "EdwardsCurve") "d"
  nf_EdwardsCurve_prime : NoAttr K (He.ga K "EdwardsCurve") "prime"
  mt_Curve_u_right_side : Meth K (He.ga K "Curve") "_right_side" (He.ma K (He.ga K "Curve") "_right_side")
  mt_Curve_u_slope : Meth K (He.ga K "Curve") "_slope" (He.ma K (He.ga K "Curve") "_slope")
  mt_Curve_add : Meth K (He.ga K "Curve") "add" (He.ma K (He.ga K "Curve") "add")
  mt_Curve_has : Meth K (He.ga K "Curve") "has" (He.ma K (He.ga K "Curve") "has")
  mt_Curve_negate : Meth K (He.ga K "Curve") "negate" (He.ma K (He.ga K "Curve") "negate")
  mt_EdwardsCurve_lift : Meth K (He.ga K "EdwardsCurve") "lift" (He.ma K (He.ga K "EdwardsCurve") "lift")
  mk_Curve : Mk K (He.ga K "Curve") (He.ma K (He.ga K "Curve") "__init__")
  mk_EdwardsCurve : Mk K (He.ga K "EdwardsCurve") (He.ma K (He.ga K "EdwardsCurve") "__init__")
  g_CurveError : mg "CurveError" = some (.ref (He.ga K "CurveError"))
  g_OutOfRange : mg "OutOfRange" = some (.ref (He.ga K "OutOfRange"))
  g_Malformed : mg "Malformed" = some (.ref (He.ga K "Malformed"))
  g_NotAPoint : mg "NotAPoint" = some (.ref (He.ga K "NotAPoint"))
  g_NoInverse : mg "NoInverse" = some (.ref (He.ga K "NoInverse"))
  g_Refused : mg "Refused" = some (.ref (He.ga K "Refused"))
  x_NoInverse : PySem.W.excIn K (He.ga K "NoInverse") He.veBase "ValueError.__new__" = true
  k_NoInverse : PySem.W.keepIn K (.ref (He.ga K "NoInverse")) = true
  b_NoInverse : PySem.W.subIn K (.ref (He.ga K "NoInverse")) (.type "BaseException") = some true
  t_NoInverse : PySem.W.typeIn K (.ref (He.ga K "NoInverse")) = some (.type "type")
  x_NotAPoint : PySem.W.excIn K (He.ga K "NotAPoint") He.veBase "ValueError.__new__" = true
  k_NotAPoint : PySem.W.keepIn K (.ref (He.ga K "NotAPoint")) = true
  b_NotAPoint : PySem.W.subIn K (.ref (He.ga K "NotAPoint")) (.type "BaseException") = some true
  t_NotAPoint : PySem.W.typeIn K (.ref (He.ga K "NotAPoint")) = some (.type "type")
  x_OutOfRange : PySem.W.excIn K (He.ga K "OutOfRange") He.veBase "ValueError.__new__" = true
  k_OutOfRange : PySem.W.keepIn K (.ref (He.ga K "OutOfRange")) = true
  b_OutOfRange : PySem.W.subIn K (.ref (He.ga K "OutOfRange")) (.type "BaseException") = some true
  t_OutOfRange : PySem.W.typeIn K (.ref (He.ga K "OutOfRange")) = some (.type "type")
  x_Refused : PySem.W.excIn K (He.ga K "Refused") He.veBase "ValueError.__new__" = true
  k_Refused : PySem.W.keepIn K (.ref (He.ga K "Refused")) = true
  b_Refused : PySem.W.subIn K (.ref (He.ga K "Refused")) (.type "BaseException") = some true
  t_Refused : PySem.W.typeIn K (.ref (He.ga K "Refused")) = some (.type "type")
  n_abs : mg "abs" = none
  n_all : mg "all" = none
  n_bool : mg "bool" = none
  n_int : mg "int" = none
  n_isinstance : mg "isinstance" = none
  n_len : mg "len" = none
  n_min : mg "min" = none
  n_range : mg "range" = none
  n_tuple : mg "tuple" = none
  cls : Cls K errs subE
noncomputable def m_is_whole (value_ : D) : Res Bool :=
  (((Res.ok value_)).bind fun (t1 : D) => Res.need ((toD t1).plain = true) (Res.ok (isI "int" (toD t1)))).bind fun b4 => cond b4 ((((Res.ok value_)).bind fun (t2 : D) => Res.need ((toD t2).plain = true) (Res.ok (isI "bool" (toD t2)))).bind fun (t3 : Bool) => Res.ok (!t3)) (Res.ok false)
theorem ok_is_whole {P : Program} {w : World} {K : PySem.W.Frag} {mg : Str → Option Value} {base : Heap} (T : Facts K mg) {fd : FuncData} (F : FnP K "is_whole" "is_whole" s_is_whole (He.ga K "is_whole") fd) :
    FnOk P w K mg base (L2.CX P w) 1 (He.ga K "is_whole") fd ["value"] (spM K (fun (p : D × Unit) => m_is_whole p.1)) := by
  refine fn_ok F sc_is_whole (fun y => rfl) (fun cdv A outer s H E hr => ?_)
  refine ⟨_, (pss_one (ps_ret (pe_and (pe_callB call_isi (by rfl) T.n_isinstance (by decide +kernel) (pa_cons (pv 0) (pa_cons (pe_bltn (v := .ty "int") (by rfl) T.n_int (by decide +kernel) rfl) pa_nil))) (pe_one (pe_not (pe_callB call_isi (by rfl) T.n_isinstance (by decide +kernel) (pa_cons (pv 0) (pa_cons (pe_bltn (v := .ty "bool") (by rfl) T.n_bool (by decide +kernel) rfl) pa_nil)))))))), ?_⟩
  rintro ⟨value_, ⟨⟩⟩ F0 H0 Q KP L
  show Blk K F0 H0 KP _ [some (.im (toD value_))] (m_is_whole value_)
  unfold m_is_whole
  have hr_ := ((ev_andV (ev_isi isi_int (ev_var (i := 0) (x := value_) rfl)) (ev_notV (ev_isi isi_bool (ev_var (i := 0) (x := value_) rfl)))) : EvX K (W0 E) [some (.im (toD value_))] _ _)
  exact blk_ret L trivial hr_
noncomputable def m_is_residue (value_ : D) (modulus_ : Int) : Res Bool :=
  ((((Res.ok value_)).bind fun a6 => (Res.ok ()).bind fun a7 => Res.ok (a6, a7)).bind fun p5 => m_is_whole p5.1).bind fun b12 => cond b12 (((Res.ok (0 : Int))).bind fun (t8 : Int) => (((Res.ok value_)).bind D.asInt).bind fun (t9 : Int) => (Res.ok (decide (t8 ≤ t9))).bind fun b11 => cond b11 (((Res.ok modulus_)).bind fun (t10 : Int) => Res.ok (decide (t9 < t10))) (Res.ok false)) (Res.ok false)
theorem ok_is_residue {P : Program} {w : World} {K : PySem.W.Frag} {mg : Str → Option Value} {base : Heap} (T : Facts K mg) {fd : FuncData} (F : FnP K "is_residue" "is_residue" s_is_residue (He.ga K "is_residue") fd) :
    FnOk P w K mg base (L2.CX P w) 2 (He.ga K "is_residue") fd ["value", "modulus"] (spM K (fun (p : D × Int × Unit) => m_is_residue p.1 p.2.1)) := by
  obtain ⟨fd_is_whole, F_is_whole⟩ := T.d_is_whole
  have G_is_whole := ok_is_whole (P := P) (w := w) (base := base) T F_is_whole
  have b_is_whole : Binds K fd_is_whole ["value"] [] := F_is_whole.bindsN fun _ _ _ _ _ _ us hl => match us, hl with | [_], _ => rfl
  refine fn_ok F sc_is_residue (fun y => rfl) (fun cdv A outer s H E hr => ?_)
  refine ⟨_, (pss_one (ps_ret (pe_and (pe_callS G_is_whole (hr.mono (by decide)) rfl T.g_is_whole F_is_whole.kp b_is_whole (fun σ => passAt (takes_of rfl rfl rfl rfl) σ) (pa_cons (pv 0) pa_nil)) (pe_one (pe_chain op_le op_lt pe_int (pv 0) (pv 1)))))), ?_⟩
  rintro ⟨value_, modulus_, ⟨⟩⟩ F0 H0 Q KP L
  show Blk K F0 H0 KP _ [some (.im (toD value_)), some (.im (toD modulus_))] (m_is_residue value_ modulus_)
  unfold m_is_residue
  have hr_ := ((ev_andV (ev_call (f := (fun (p : D × Unit) => m_is_whole p.1)) (ea_cons (ev_var (i := 0) (x := value_) rfl) ea_nil)) (ev_chain (opx_B0 (g := fun i j => decide (i ≤ j))) mild_ok (opx_B0 (g := fun i j => decide (i < j))) mild_ok (ev_int (i := 0)) (ev_cast (f := D.asInt) asInt_ok asInt_x (ev_var (i := 0) (x := value_) rfl)) (ev_var (i := 1) (x := modulus_) rfl))) : EvX K (W0 E) [some (.im (toD value_)), some (.im (toD modulus_))] _ _)
  exact blk_ret L trivial hr_
noncomputable def m_is_residue_pair (value_ : D) (modulus_ : Int) : Res Bool :=
  (((Res.ok value_)).bind fun (t13 : D) => Res.need ((toD t13).plain = true) (Res.ok (isI "tuple" (toD t13)))).bind fun b29 => cond b29 (((((Res.ok value_)).bind fun (t14 : D) => D.lenR t14).bind fun (t15 : Int) => ((Res.ok (2 : Int))).bind fun (t16 : Int) => Res.ok (decide (t15 = t16))).bind fun b28 => cond b28 (((((((Res.ok value_)).bind D.asTu).bind fun (t17 : (Tu D)) => Res.ok (t17).xs).bind fun (xs24 : List D) => Res.need (xs24.length ≤ 16777216) (compL (fun (x18 : D) => Res.ok true) (fun (x18 : D) => (((Res.ok x18)).bind fun a20 => (((Res.ok modulus_)).bind fun a22 => (Res.ok ()).bind fun a23 => Res.ok (a22, a23)).bind fun a21 => Res.ok (a20, a21)).bind fun p19 => (m_is_residue p19.1 p19.2.1).noexc) xs24)).bind fun a26 => (Res.ok ()).bind fun a27 => Res.ok (a26, a27)).bind fun p25 => Res.ok ((p25.1).all id)) (Res.ok false)) (Res.ok false)
theorem ok_is_residue_pair {P : Program} {w : World} {K : PySem.W.Frag} {mg : Str → Option Value} {base : Heap} (T : Facts K mg) {fd : FuncData} (F : FnP K "is_residue_pair" "is_residue_pair" s_is_residue_pair (He.ga K "is_residue_pair") fd) :
    FnOk P w K mg base (L2.CX P w) 3 (He.ga K "is_residue_pair") fd ["value", "modulus"] (spM K (fun (p : D × Int × Unit) => m_is_residue_pair p.1 p.2.1)) := by
  obtain ⟨fd_is_residue, F_is_residue⟩ := T.d_is_residue
  have G_is_residue := ok_is_residue (P := P) (w := w) (base := base) T F_is_residue
  have b_is_residue : Binds K fd_is_residue ["value", "modulus"] [] := F_is_residue.bindsN fun _ _ _ _ _ _ us hl => match us, hl with | [_, _], _ => rfl
  refine fn_ok F sc_is_residue_pair (fun y => rfl) (fun cdv A outer s H E hr => ?_)
  refine ⟨_, (pss_one (ps_ret (pe_and (pe_callB call_isi (by rfl) T.n_isinstance (by decide +kernel) (pa_cons (pv 0) (pa_cons (pe_bltn (v := .ty "tuple") (by rfl) T.n_tuple (by decide +kernel) rfl) pa_nil))) (pe_and (pe_cmpR op_eq (pe_callB (cr_len rfl) (by rfl) T.n_len (by decide +kernel) (pa_cons (pv 0) pa_nil)) pe_int (nomark _)) (pe_one (pe_callB (cr_all rfl) (by rfl) T.n_all (by decide +kernel) (pa_cons (pe_lc (own := [("item", 2)]) rfl sc_is_residue_pair.nd (pi_tup (pv 0)) (blkOk_by (own := [("item", 2)]) (N := ["value", "modulus", "item"]) (sc := defScope s_is_residue_pair) (by decide +kernel)) (fun _ _ _ _ _ => (pg_name (i := 2) sc_is_residue_pair.nd rfl (Or.inl rfl))) (fun _ _ _ _ _ => pts_nil) (fun _ _ _ _ _ => (pe_call G_is_residue (hr.mono (by decide)) rfl T.g_is_residue F_is_residue.kp b_is_residue .nil passL (pa_cons (pv 2) (pa_cons (pv 1) pa_nil))))) pa_nil))))))), ?_⟩
  rintro ⟨value_, modulus_, ⟨⟩⟩ F0 H0 Q KP L
  show Blk K F0 H0 KP _ [some (.im (toD value_)), some (.im (toD modulus_)), none] (m_is_residue_pair value_ modulus_)
  unfold m_is_residue_pair
  have hr_ := ((ev_andV (ev_isi isi_tuple (ev_var (i := 0) (x := value_) rfl)) (ev_andV (ev_op opx_eqI mild_ok (ev_lenD (ev_var (i := 0) (x := value_) rfl)) (ev_int (i := 2))) (ev_cb cx_all (fun _ _ h => nomatch h) (ea_cons (ev_ofN (ev_comp (tst := fun (x18 : D) => Res.ok true) (el := fun (x18 : D) => (((Res.ok x18)).bind fun a20 => (((Res.ok modulus_)).bind fun a22 => (Res.ok ()).bind fun a23 => Res.ok (a22, a23)).bind fun a21 => Res.ok (a20, a21)).bind fun p19 => (m_is_residue p19.1 p19.2.1).noexc) (ws := [2]) (ei_tup (ev_cast (f := D.asTu) asTu_ok asTu_x (ev_var (i := 0) (x := value_) rfl))) (fun _ => gx_name) (fun x18 => et_yes) (fun x18 => ((ev_call0 (f := (fun (p : D × Int × Unit) => m_is_residue p.1 p.2.1)) (ea_cons (ev_var (i := 2) (x := x18) rfl) (ea_cons (ev_var (i := 1) (x := modulus_) rfl) ea_nil))) : EvX K WT [some (.im (toD value_)), some (.im (toD modulus_)), some (.im (toD x18))] _ _)))) ea_nil)))) : EvX K (W0 E) [some (.im (toD value_)), some (.im (toD modulus_)), none] _ _)
  exact blk_ret L trivial hr_
noncomputable def m_bezout_w1 (k1 : (T3 Int Int Int) × (T3 Int Int Int) → Res (T3 Int Int Int)) : Nat → (T3 Int Int Int) × (T3 Int Int Int) → Res (T3 Int Int Int)
  | 0, _ => Res.stuck
  | n1 + 1, (first_, second_) => ((((Res.ok second_)).bind fun (t44 : (T3 Int Int Int)) => Res.ok t44.a).bind fun (t45 : Int) => ((Res.ok (0 : Int))).bind fun (t46 : Int) => Res.ok (!decide (t45 = t46))).bind fun b => cond b   (((((Res.ok first_)).bind fun (t47 : (T3 Int Int Int)) => Res.ok t47.a).bind fun (t49 : Int) => (((Res.ok second_)).bind fun (t48 : (T3 Int Int Int)) => Res.ok t48.a).bind fun (t50 : Int) => Res.need (CDivW t49 t50) (Res.ok (t49 / t50))).bind fun (times_ : Int) =>   ((((((Res.ok first_)).bind fun (t51 : (T3 Int Int Int)) => Res.ok t51.a).bind fun (t55 : Int) => (((Res.ok times_)).bind fun (t53 : Int) => (((Res.ok second_)).bind fun (t52 : (T3 Int Int Int)) => Res.ok t52.a).bind fun (t54 : Int) => Res.need (CMulX t53 t54) (Res.ok (t53 * t54))).bind fun (t56 : Int) => Res.ok (t55 - t56)).bind fun a70 => (((((Res.ok first_)).bind fun (t57 : (T3 Int Int Int)) => Res.ok t57.b).bind fun (t61 : Int) => (((Res.ok times_)).bind fun (t59 : Int) => (((Res.ok second_)).bind fun (t58 : (T3 Int Int Int)) => Res.ok t58.b).bind fun (t60 : Int) => Res.need (CMulX t59 t60) (Res.ok (t59 * t60))).bind fun (t62 : Int) => Res.ok (t61 - t62)).bind fun a72 => (((((Res.ok first_)).bind fun (t63 : (T3 Int Int Int)) => Res.ok t63.c).bind fun (t67 : Int) => (((Res.ok times_)).bind fun (t65 : Int) => (((Res.ok second_)).bind fun (t64 : (T3 Int Int Int)) => Res.ok t64.c).bind fun (t66 : Int) => Res.need (CMulX t65 t66) (Res.ok (t65 * t66))).bind fun (t68 : Int) => Res.ok (t67 - t68)).bind fun a74 => (Res.ok ()).bind fun a75 => Res.ok (a74, a75)).bind fun a73 => Res.ok (a72, a73)).bind fun a71 => Res.ok (a70, a71)).bind fun p69 => Res.ok (T3.mk p69.1 p69.2.1 p69.2.2.1)).bind fun (rest_ : (T3 Int Int Int)) =>   ((Res.ok second_)).bind fun (p76 : (T3 Int Int Int)) => ((Res.ok rest_)).bind fun (p77 : (T3 Int Int Int)) =>   (fun (first_ : (T3 Int Int Int)) (second_ : (T3 Int Int Int)) => m_bezout_w1 k1 n1 (first_, second_)) p76 p77)   (k1 (first_, second_))
noncomputable def m_bezout_k3 : (T3 Int Int Int) × (T3 Int Int Int) → Res (T3 Int Int Int) := fun (first_, second_) =>   ((((Res.ok first_)).bind fun (t78 : (T3 Int Int Int)) => Res.ok t78.a).bind fun (t79 : Int) => ((Res.ok (0 : Int))).bind fun (t80 : Int) => Res.ok (decide (t79 < t80))).bind fun b => cond b   ((((((Res.ok first_)).bind fun (t81 : (T3 Int Int Int)) => Res.ok t81.a).bind fun (t82 : Int) => Res.ok (-t82)).bind fun a88 => (((((Res.ok first_)).bind fun (t83 : (T3 Int Int Int)) => Res.ok t83.b).bind fun (t84 : Int) => Res.ok (-t84)).bind fun a90 => (((((Res.ok first_)).bind fun (t85 : (T3 Int Int Int)) => Res.ok t85.c).bind fun (t86 : Int) => Res.ok (-t86)).bind fun a92 => (Res.ok ()).bind fun a93 => Res.ok (a92, a93)).bind fun a91 => Res.ok (a90, a91)).bind fun a89 => Res.ok (a88, a89)).bind fun p87 => Res.ok (T3.mk p87.1 p87.2.1 p87.2.2.1))   ((Res.ok first_))
noncomputable def m_bezout (a_ : Int) (b_ : Int) : Res (T3 Int Int Int) :=
  ((((Res.ok a_)).bind fun a31 => (((Res.ok (1 : Int))).bind fun a33 => (((Res.ok (0 : Int))).bind fun a35 => (Res.ok ()).bind fun a36 => Res.ok (a35, a36)).bind fun a34 => Res.ok (a33, a34)).bind fun a32 => Res.ok (a31, a32)).bind fun p30 => Res.ok (T3.mk p30.1 p30.2.1 p30.2.2.1)).bind fun (p94 : (T3 Int Int Int)) => ((((Res.ok b_)).bind fun a38 => (((Res.ok (0 : Int))).bind fun a40 => (((Res.ok (1 : Int))).bind fun a42 => (Res.ok ()).bind fun a43 => Res.ok (a42, a43)).bind fun a41 => Res.ok (a40, a41)).bind fun a39 => Res.ok (a38, a39)).bind fun p37 => Res.ok (T3.mk p37.1 p37.2.1 p37.2.2.1)).bind fun (p95 : (T3 Int Int Int)) =>   (fun (first_ : (T3 Int Int Int)) (second_ : (T3 Int Int Int)) => m_bezout_w1 (m_bezout_k3) (b_.natAbs + 1) (first_, second_)) p94 p95
theorem ok_bezout {P : Program} {w : World} {K : PySem.W.Frag} {mg : Str → Option Value} {base : Heap} (T : Facts K mg) {fd : FuncData} (F : FnP K "bezout" "bezout" s_bezout (He.ga K "bezout") fd) :
    FnOk P w K mg base (L2.CX P w) 1 (He.ga K "bezout") fd ["a", "b"] (spM K (fun (p : Int × Int × Unit) => m_bezout p.1 p.2.1)) := by
  refine fn_ok F sc_bezout (fun y => rfl) (fun cdv A outer s H E hr => ?_)
  refine ⟨_, (pss_cons (ps_par (i := 2) (j := 3) (by rfl) sc_bezout.nd rfl rfl (by decide) rfl rfl (pa_cons (pe_tup (pa_cons (pv 0) (pa_cons pe_int (pa_cons pe_int pa_nil)))) (pa_cons (pe_tup (pa_cons (pv 1) (pa_cons pe_int (pa_cons pe_int pa_nil)))) pa_nil)) (by rfl)) (pss_cons (ps_while (passes_of rfl) (pt_cmpR op_ne (pe_ix (cr_ixT rfl) (pv 3) pe_int (fun _ _ => rfl)) pe_int (nomark _)) (pss_cons (ps_set (i := 4) sc_bezout.nd rfl (Or.inl rfl) (pe_op op_fdivW (pe_ix (cr_ixT rfl) (pv 2) pe_int (fun _ _ => rfl)) (pe_ix (cr_ixT rfl) (pv 3) pe_int (fun _ _ => rfl)))) (pss_cons (ps_set (i := 5) sc_bezout.nd rfl (Or.inl rfl) (pe_tup (pa_cons (pe_op op_sub (pe_ix (cr_ixT rfl) (pv 2) pe_int (fun _ _ => rfl)) (pe_op op_mulX (pv 4) (pe_ix (cr_ixT rfl) (pv 3) pe_int (fun _ _ => rfl)))) (pa_cons (pe_op op_sub (pe_ix (cr_ixT rfl) (pv 2) pe_int (fun _ _ => rfl)) (pe_op op_mulX (pv 4) (pe_ix (cr_ixT rfl) (pv 3) pe_int (fun _ _ => rfl)))) (pa_cons (pe_op op_sub (pe_ix (cr_ixT rfl) (pv 2) pe_int (fun _ _ => rfl)) (pe_op op_mulX (pv 4) (pe_ix (cr_ixT rfl) (pv 3) pe_int (fun _ _ => rfl)))) pa_nil))))) (pss_one (ps_par (i := 2) (j := 3) (by rfl) sc_bezout.nd rfl rfl (by decide) rfl rfl (pa_cons (pv 3) (pa_cons (pv 5) pa_nil)) (by rfl)))))) (pss_cons (ps_if (pt_cmpR op_lt (pe_ix (cr_ixT rfl) (pv 2) pe_int (fun _ _ => rfl)) pe_int (nomark _)) (pss_one (ps_ret (pe_tup (pa_cons (pe_un un_neg (pe_ix (cr_ixT rfl) (pv 2) pe_int (fun _ _ => rfl))) (pa_cons (pe_un un_neg (pe_ix (cr_ixT rfl) (pv 2) pe_int (fun _ _ => rfl))) (pa_cons (pe_un un_neg (pe_ix (cr_ixT rfl) (pv 2) pe_int (fun _ _ => rfl))) pa_nil)))))) pss_nil) (pss_one (ps_ret (pv 2)))))), ?_⟩
  rintro ⟨a_, b_, ⟨⟩⟩ F0 H0 Q KP L
  show Blk K F0 H0 KP _ [some (.im (toD a_)), some (.im (toD b_)), none, none, none, none] (m_bezout a_ b_)
  unfold m_bezout
  have ha_ := ((ev_tup (f := (fun y => T3.mk y.1 y.2.1 y.2.2.1)) (ea_cons (ev_var (i := 0) (x := a_) rfl) (ea_cons (ev_int (i := 1)) (ea_cons (ev_int (i := 0)) ea_nil))) (fun _ => rfl) (fun _ => by show 3 ≤ 100000; decide)) : EvX K (W0 E) [some (.im (toD a_)), some (.im (toD b_)), none, none, none, none] _ _)
  have hb_ := ((ev_tup (f := (fun y => T3.mk y.1 y.2.1 y.2.2.1)) (ea_cons (ev_var (i := 1) (x := b_) rfl) (ea_cons (ev_int (i := 0)) (ea_cons (ev_int (i := 1)) ea_nil))) (fun _ => rfl) (fun _ => by show 3 ≤ 100000; decide)) : EvX K (W0 E) [some (.im (toD a_)), some (.im (toD b_)), none, none, none, none] _ _)
  refine blk_seq (blk_par (i := 2) (j := 3) L trivial ha_ hb_ fun first_ second_ => ?_)
  show Blk _ _ _ _ _ [some (.im (toD a_)), some (.im (toD b_)), some (.im (toD first_)), some (.im (toD second_)), none, none] _
  try refine Blk.nx ?_
  refine blk_seq (blk_while (S := (T3 Int Int Int) × (T3 Int Int Int)) (m_bezout_w1 (m_bezout_k3)) (fun (s : (T3 Int Int Int) × (T3 Int Int Int)) => match s with | (first_, second_) => (((Res.ok second_)).bind fun (t44 : (T3 Int Int Int)) => Res.ok t44.a).bind fun (t45 : Int) => ((Res.ok (0 : Int))).bind fun (t46 : Int) => Res.ok (!decide (t45 = t46))) (fun n s => match s with | (first_, second_) => ((((Res.ok first_)).bind fun (t47 : (T3 Int Int Int)) => Res.ok t47.a).bind fun (t49 : Int) => (((Res.ok second_)).bind fun (t48 : (T3 Int Int Int)) => Res.ok t48.a).bind fun (t50 : Int) => Res.need (CDivW t49 t50) (Res.ok (t49 / t50))).bind fun (times_ : Int) =>   ((((((Res.ok first_)).bind fun (t51 : (T3 Int Int Int)) => Res.ok t51.a).bind fun (t55 : Int) => (((Res.ok times_)).bind fun (t53 : Int) => (((Res.ok second_)).bind fun (t52 : (T3 Int Int Int)) => Res.ok t52.a).bind fun (t54 : Int) => Res.need (CMulX t53 t54) (Res.ok (t53 * t54))).bind fun (t56 : Int) => Res.ok (t55 - t56)).bind fun a70 => (((((Res.ok first_)).bind fun (t57 : (T3 Int Int Int)) => Res.ok t57.b).bind fun (t61 : Int) => (((Res.ok times_)).bind fun (t59 : Int) => (((Res.ok second_)).bind fun (t58 : (T3 Int Int Int)) => Res.ok t58.b).bind fun (t60 : Int) => Res.need (CMulX t59 t60) (Res.ok (t59 * t60))).bind fun (t62 : Int) => Res.ok (t61 - t62)).bind fun a72 => (((((Res.ok first_)).bind fun (t63 : (T3 Int Int Int)) => Res.ok t63.c).bind fun (t67 : Int) => (((Res.ok times_)).bind fun (t65 : Int) => (((Res.ok second_)).bind fun (t64 : (T3 Int Int Int)) => Res.ok t64.c).bind fun (t66 : Int) => Res.need (CMulX t65 t66) (Res.ok (t65 * t66))).bind fun (t68 : Int) => Res.ok (t67 - t68)).bind fun a74 => (Res.ok ()).bind fun a75 => Res.ok (a74, a75)).bind fun a73 => Res.ok (a72, a73)).bind fun a71 => Res.ok (a70, a71)).bind fun p69 => Res.ok (T3.mk p69.1 p69.2.1 p69.2.2.1)).bind fun (rest_ : (T3 Int Int Int)) =>   ((Res.ok second_)).bind fun (p76 : (T3 Int Int Int)) => ((Res.ok rest_)).bind fun (p77 : (T3 Int Int Int)) =>   (fun (first_ : (T3 Int Int Int)) (second_ : (T3 Int Int Int)) => m_bezout_w1 (m_bezout_k3) n (first_, second_)) p76 p77) (m_bezout_k3) (fun (first_, second_) => [some (.im (toD a_)), some (.im (toD b_)), some (.im (toD first_)), some (.im (toD second_)), none, none]) (first_, second_) (b_.natAbs + 1) L ?_ (.same (.same (.same (.same (.same (.same .nil)))))) ?_ (fun ⟨_, _⟩ => rfl) (fun _ ⟨_, _⟩ => rfl) ?_ ?_)
  · rintro ⟨first_, second_⟩
    exact trivial
  · rintro ⟨first_, second_⟩
    exact ((et_test (ev_op opx_neI mild_ok (ev_ixTC (i := 0) (f := fun x => x.a) (ev_var (i := 3) (x := second_) rfl) (fun x => ⟨_, rfl, rfl⟩)) (ev_int (i := 0)))) : EvT K (W0 E) [some (.im (toD a_)), some (.im (toD b_)), some (.im (toD first_)), some (.im (toD second_)), none, none] _ _)
  · intro n1 s_ N_ hN1
    obtain ⟨first_, second_⟩ := s_
    show Blk _ _ _ _ _ [some (.im (toD a_)), some (.im (toD b_)), some (.im (toD first_)), some (.im (toD second_)), none, none] _
    have hs_ := ((ev_op (opx_I (C := CDivW) (g := fun i j => i / j)) mild_need (ev_ixTC (i := 0) (f := fun x => x.a) (ev_var (i := 2) (x := first_) rfl) (fun x => ⟨_, rfl, rfl⟩)) (ev_ixTC (i := 0) (f := fun x => x.a) (ev_var (i := 3) (x := second_) rfl) (fun x => ⟨_, rfl, rfl⟩))) : EvX K (W0 E) [some (.im (toD a_)), some (.im (toD b_)), some (.im (toD first_)), some (.im (toD second_)), none, none] _ _)
    refine blk_seq (blk_set (i := 4) L trivial hs_ fun times_ => ?_)
    show Blk _ _ _ _ _ [some (.im (toD a_)), some (.im (toD b_)), some (.im (toD first_)), some (.im (toD second_)), some (.im (toD times_)), none] _
    try refine Blk.nx ?_
    have hs_ := ((ev_tup (f := (fun y => T3.mk y.1 y.2.1 y.2.2.1)) (ea_cons (ev_op (opx_I0 (g := fun i j => i - j)) mild_ok (ev_ixTC (i := 0) (f := fun x => x.a) (ev_var (i := 2) (x := first_) rfl) (fun x => ⟨_, rfl, rfl⟩)) (ev_op (opx_I (C := CMulX) (g := fun i j => i * j)) mild_need (ev_var (i := 4) (x := times_) rfl) (ev_ixTC (i := 0) (f := fun x => x.a) (ev_var (i := 3) (x := second_) rfl) (fun x => ⟨_, rfl, rfl⟩)))) (ea_cons (ev_op (opx_I0 (g := fun i j => i - j)) mild_ok (ev_ixTC (i := 1) (f := fun x => x.b) (ev_var (i := 2) (x := first_) rfl) (fun x => ⟨_, rfl, rfl⟩)) (ev_op (opx_I (C := CMulX) (g := fun i j => i * j)) mild_need (ev_var (i := 4) (x := times_) rfl) (ev_ixTC (i := 1) (f := fun x => x.b) (ev_var (i := 3) (x := second_) rfl) (fun x => ⟨_, rfl, rfl⟩)))) (ea_cons (ev_op (opx_I0 (g := fun i j => i - j)) mild_ok (ev_ixTC (i := 2) (f := fun x => x.c) (ev_var (i := 2) (x := first_) rfl) (fun x => ⟨_, rfl, rfl⟩)) (ev_op (opx_I (C := CMulX) (g := fun i j => i * j)) mild_need (ev_var (i := 4) (x := times_) rfl) (ev_ixTC (i := 2) (f := fun x => x.c) (ev_var (i := 3) (x := second_) rfl) (fun x => ⟨_, rfl, rfl⟩)))) ea_nil))) (fun _ => rfl) (fun _ => by show 3 ≤ 100000; decide)) : EvX K (W0 E) [some (.im (toD a_)), some (.im (toD b_)), some (.im (toD first_)), some (.im (toD second_)), some (.im (toD times_)), none] _ _)
    refine blk_seq (blk_set (i := 5) L trivial hs_ fun rest_ => ?_)
    show Blk _ _ _ _ _ [some (.im (toD a_)), some (.im (toD b_)), some (.im (toD first_)), some (.im (toD second_)), some (.im (toD times_)), some (.im (toD rest_))] _
    try refine Blk.nx ?_
    have ha_ := ((ev_var (i := 3) (x := second_) rfl) : EvX K (W0 E) [some (.im (toD a_)), some (.im (toD b_)), some (.im (toD first_)), some (.im (toD second_)), some (.im (toD times_)), some (.im (toD rest_))] _ _)
    have hb_ := ((ev_var (i := 5) (x := rest_) rfl) : EvX K (W0 E) [some (.im (toD a_)), some (.im (toD b_)), some (.im (toD first_)), some (.im (toD second_)), some (.im (toD times_)), some (.im (toD rest_))] _ _)
    refine blk_par (i := 2) (j := 3) L trivial ha_ hb_ fun first_ second_ => ?_
    show Blk _ _ _ _ _ [some (.im (toD a_)), some (.im (toD b_)), some (.im (toD first_)), some (.im (toD second_)), some (.im (toD times_)), some (.im (toD rest_))] _
    try refine Blk.nx ?_
    exact (hN1 (first_, second_)).weak (.same (.same (.same (.same (.drop (.drop .nil))))))
  · rintro ⟨first_, second_⟩
    show Blk _ _ _ _ _ [some (.im (toD a_)), some (.im (toD b_)), some (.im (toD first_)), some (.im (toD second_)), none, none] ((m_bezout_k3) (first_, second_))
    unfold m_bezout_k3
    try refine Blk.nx ?_
    have ht_ := ((et_test (ev_op (opx_B0 (g := fun i j => decide (i < j))) mild_ok (ev_ixTC (i := 0) (f := fun x => x.a) (ev_var (i := 2) (x := first_) rfl) (fun x => ⟨_, rfl, rfl⟩)) (ev_int (i := 0)))) : EvT K (W0 E) [some (.im (toD a_)), some (.im (toD b_)), some (.im (toD first_)), some (.im (toD second_)), none, none] _ _)
    refine blk_seq (blk_if2 L trivial ht_ ?_ ?_)
    · have hr_ := ((ev_tup (f := (fun y => T3.mk y.1 y.2.1 y.2.2.1)) (ea_cons (ev_un (g := fun i => -i) (ev_ixTC (i := 0) (f := fun x => x.a) (ev_var (i := 2) (x := first_) rfl) (fun x => ⟨_, rfl, rfl⟩))) (ea_cons (ev_un (g := fun i => -i) (ev_ixTC (i := 1) (f := fun x => x.b) (ev_var (i := 2) (x := first_) rfl) (fun x => ⟨_, rfl, rfl⟩))) (ea_cons (ev_un (g := fun i => -i) (ev_ixTC (i := 2) (f := fun x => x.c) (ev_var (i := 2) (x := first_) rfl) (fun x => ⟨_, rfl, rfl⟩))) ea_nil))) (fun _ => rfl) (fun _ => by show 3 ≤ 100000; decide)) : EvX K (W0 E) [some (.im (toD a_)), some (.im (toD b_)), some (.im (toD first_)), some (.im (toD second_)), none, none] _ _)
      exact blk_ret L trivial hr_
    · refine blk_nil ?_
      try refine Blk.nx ?_
      have hr_ := ((ev_var (i := 2) (x := first_) rfl) : EvX K (W0 E) [some (.im (toD a_)), some (.im (toD b_)), some (.im (toD first_)), some (.im (toD second_)), none, none] _ _)
      exact blk_ret L trivial hr_
noncomputable def m_inverse (a_ : Int) (modulus_ : Int) : Res Int :=
  (((((Res.ok a_)).bind fun (t96 : Int) => ((Res.ok modulus_)).bind fun (t97 : Int) => Res.need (0 < t97) (Res.ok (t96 % t97))).bind fun a99 => (((Res.ok modulus_)).bind fun a101 => (Res.ok ()).bind fun a102 => Res.ok (a101, a102)).bind fun a100 => Res.ok (a99, a100)).bind fun p98 => m_bezout p98.1 p98.2.1).bind fun (u103 : (T3 Int Int Int)) =>   (fun (divisor_ : Int) (factor_ : Int) (u__ : Int) => (((Res.ok divisor_)).bind fun (t104 : Int) => ((Res.ok (1 : Int))).bind fun (t105 : Int) => Res.ok (!decide (t104 = t105))).bind fun b => cond b   (Res.exc "NoInverse")   (((Res.ok factor_)).bind fun (t106 : Int) => ((Res.ok modulus_)).bind fun (t107 : Int) => Res.need (0 < t107) (Res.ok (t106 % t107)))) u103.a u103.b u103.c
theorem ok_inverse {P : Program} {w : World} {K : PySem.W.Frag} {mg : Str → Option Value} {base : Heap} (T : Facts K mg) {fd : FuncData} (F : FnP K "inverse" "inverse" s_inverse (He.ga K "inverse") fd) :
    FnOk P w K mg base (L2.CX P w) 2 (He.ga K "inverse") fd ["a", "modulus"] (spM K (fun (p : Int × Int × Unit) => m_inverse p.1 p.2.1)) := by
  obtain ⟨fd_bezout, F_bezout⟩ := T.d_bezout
  have G_bezout := ok_bezout (P := P) (w := w) (base := base) T F_bezout
  have b_bezout : Binds K fd_bezout ["a", "b"] [] := F_bezout.bindsN fun _ _ _ _ _ _ us hl => match us, hl with | [_, _], _ => rfl
  refine fn_ok F sc_inverse (fun y => rfl) (fun cdv A outer s H E hr => ?_)
  refine ⟨_, (pss_cons (ps_asg (pe_callS G_bezout (hr.mono (by decide)) rfl T.g_bezout F_bezout.kp b_bezout (fun σ => passAt (takes_of rfl rfl rfl rfl) σ) (pa_cons (pe_op op_mod (pv 0) (pv 1)) (pa_cons (pv 1) pa_nil))) (pg_tup rfl (pgs_cons (pg_name (i := 2) sc_inverse.nd rfl (Or.inl rfl)) (pgs_cons (pg_name (i := 3) sc_inverse.nd rfl (Or.inl rfl)) (pgs_cons (pg_name (i := 4) sc_inverse.nd rfl (Or.inl rfl)) pgs_nil))))) (pss_cons (ps_if (pt_cmpR op_ne (pv 2) pe_int (nomark _)) (pss_one (ps_raise rfl (takes_of rfl rfl rfl rfl) (pmk_own PySem.F.excBase_ValueError T.x_NoInverse T.g_NoInverse T.k_NoInverse (raises_own T.b_NoInverse T.t_NoInverse) rfl))) pss_nil) (pss_one (ps_ret (pe_op op_mod (pv 3) (pv 1)))))), ?_⟩
  rintro ⟨a_, modulus_, ⟨⟩⟩ F0 H0 Q KP L
  show Blk K F0 H0 KP _ [some (.im (toD a_)), some (.im (toD modulus_)), none, none, none] (m_inverse a_ modulus_)
  unfold m_inverse
  have hs_ := ((ev_call (f := (fun (p : Int × Int × Unit) => m_bezout p.1 p.2.1)) (ea_cons (ev_op (opx_I (C := (fun _ j => 0 < j)) (g := fun i j => i % j)) mild_need (ev_var (i := 0) (x := a_) rfl) (ev_var (i := 1) (x := modulus_) rfl)) (ea_cons (ev_var (i := 1) (x := modulus_) rfl) ea_nil))) : EvX K (W0 E) [some (.im (toD a_)), some (.im (toD modulus_)), none, none, none] _ _)
  refine blk_seq (blk_asg L trivial hs_ (fun _ => (gx_tup (gxs_cons gx_name (gxs_cons gx_name (gxs_cons gx_name gxs_nil))) rfl)) fun u103 => ?_)
  show Blk _ _ _ _ _ [some (.im (toD a_)), some (.im (toD modulus_)), some (.im (toD u103.a)), some (.im (toD u103.b)), some (.im (toD u103.c))] ((fun (divisor_ : Int) (factor_ : Int) (u__ : Int) => _) u103.a u103.b u103.c)
  generalize u103.a = divisor_
  generalize u103.b = factor_
  generalize u103.c = u__
  show Blk _ _ _ _ _ [some (.im (toD a_)), some (.im (toD modulus_)), some (.im (toD divisor_)), some (.im (toD factor_)), some (.im (toD u__))] _
  try refine Blk.nx ?_
  have ht_ := ((et_test (ev_op opx_neI mild_ok (ev_var (i := 2) (x := divisor_) rfl) (ev_int (i := 1)))) : EvT K (W0 E) [some (.im (toD a_)), some (.im (toD modulus_)), some (.im (toD divisor_)), some (.im (toD factor_)), some (.im (toD u__))] _ _)
  refine blk_seq (blk_if2 L trivial ht_ ?_ ?_)
  · exact blk_raise L trivial
  · refine blk_nil ?_
    try refine Blk.nx ?_
    have hr_ := ((ev_op (opx_I (C := (fun _ j => 0 < j)) (g := fun i j => i % j)) mild_need (ev_var (i := 3) (x := factor_) rfl) (ev_var (i := 1) (x := modulus_) rfl)) : EvX K (W0 E) [some (.im (toD a_)), some (.im (toD modulus_)), some (.im (toD divisor_)), some (.im (toD factor_)), some (.im (toD u__))] _ _)
    exact blk_ret L trivial hr_
noncomputable def m_power_k2 (modulus_ : Int) (square_ : Int) (rest_ : Int) (g1 : Int × Int × Int → Res Int) : Int → Res Int := fun result_ =>   ((((Res.ok square_)).bind fun (t118 : Int) => ((Res.ok square_)).bind fun (t119 : Int) => Res.need (CMulX t118 t119) (Res.ok (t118 * t119))).bind fun (t120 : Int) => ((Res.ok modulus_)).bind fun (t121 : Int) => Res.need (0 < t121) (Res.ok (t120 % t121))).bind fun (square_ : Int) =>   (((Res.ok rest_)).bind fun (t122 : Int) => ((Res.ok (1 : Int))).bind fun (t123 : Int) => Res.ok (t122 / 2 ^ t123.toNat)).bind fun (rest_ : Int) =>   g1 (result_, square_, rest_)
noncomputable def m_power_w1 (modulus_ : Int) (k1 : Int × Int × Int → Res Int) : Nat → Int × Int × Int → Res Int
  | 0, _ => Res.stuck
  | n1 + 1, (result_, square_, rest_) => (((Res.ok rest_)).bind fun (t112 : Int) => ((Res.ok (0 : Int))).bind fun (t113 : Int) => Res.ok (decide (t113 < t112))).bind fun b => cond b   (((((Res.ok rest_)).bind fun (t114 : Int) => ((Res.ok (1 : Int))).bind fun (t115 : Int) => Res.ok (Builtin.bitAnd t114 t115)).bind fun (t116 : Int) => ((Res.ok (1 : Int))).bind fun (t117 : Int) => Res.ok (decide (t116 = t117))).bind fun b => cond b   (((((Res.ok result_)).bind fun (t124 : Int) => ((Res.ok square_)).bind fun (t125 : Int) => Res.need (CMulX t124 t125) (Res.ok (t124 * t125))).bind fun (t126 : Int) => ((Res.ok modulus_)).bind fun (t127 : Int) => Res.need (0 < t127) (Res.ok (t126 % t127))).bind fun (result_ : Int) =>   (m_power_k2 modulus_ square_ rest_ (m_power_w1 modulus_ k1 n1)) result_)   ((m_power_k2 modulus_ square_ rest_ (m_power_w1 modulus_ k1 n1)) result_))   (k1 (result_, square_, rest_))
noncomputable def m_power_k3 : Int × Int × Int → Res Int := fun (result_, square_, rest_) =>   (Res.ok result_)
noncomputable def m_power (a_ : Int) (exponent_ : Int) (modulus_ : Int) : Res Int :=
  (((Res.ok (1 : Int))).bind fun (t108 : Int) => ((Res.ok modulus_)).bind fun (t109 : Int) => Res.need (0 < t109) (Res.ok (t108 % t109))).bind fun (result_ : Int) =>   (((Res.ok a_)).bind fun (t110 : Int) => ((Res.ok modulus_)).bind fun (t111 : Int) => Res.need (0 < t111) (Res.ok (t110 % t111))).bind fun (square_ : Int) =>   ((Res.ok exponent_)).bind fun (rest_ : Int) =>   m_power_w1 modulus_ (m_power_k3) (rest_.toNat + 1) (result_, square_, rest_)
theorem ok_power {P : Program} {w : World} {K : PySem.W.Frag} {mg : Str → Option Value} {base : Heap} (T : Facts K mg) {fd : FuncData} (F : FnP K "power" "power" s_power (He.ga K "power") fd) :
    FnOk P w K mg base (L2.CX P w) 1 (He.ga K "power") fd ["a", "exponent", "modulus"] (spM K (fun (p : Int × Int × Int × Unit) => m_power p.1 p.2.1 p.2.2.1)) := by
  refine fn_ok F sc_power (fun y => rfl) (fun cdv A outer s H E hr => ?_)
  refine ⟨_, (pss_cons (ps_set (i := 3) sc_power.nd rfl (Or.inl rfl) (pe_op op_mod pe_int (pv 2))) (pss_cons (ps_set (i := 4) sc_power.nd rfl (Or.inl rfl) (pe_op op_mod (pv 0) (pv 2))) (pss_cons (ps_set (i := 5) sc_power.nd rfl (Or.inl rfl) (pv 1)) (pss_cons (ps_while (passes_of rfl) (pt_cmpR op_gt (pv 5) pe_int (nomark _)) (pss_cons (ps_if (pt_cmpR op_eq (pe_op op_and (pv 5) pe_int) pe_int (nomark _)) (pss_one (ps_set (i := 3) sc_power.nd rfl (Or.inl rfl) (pe_op op_mod (pe_op op_mulX (pv 3) (pv 4)) (pv 2)))) pss_nil) (pss_cons (ps_set (i := 4) sc_power.nd rfl (Or.inl rfl) (pe_op op_mod (pe_op op_mulX (pv 4) (pv 4)) (pv 2))) (pss_one (ps_set (i := 5) sc_power.nd rfl (Or.inl rfl) (pe_op op_shr (pv 5) pe_int)))))) (pss_one (ps_ret (pv 3))))))), ?_⟩
  rintro ⟨a_, exponent_, modulus_, ⟨⟩⟩ F0 H0 Q KP L
  show Blk K F0 H0 KP _ [some (.im (toD a_)), some (.im (toD exponent_)), some (.im (toD modulus_)), none, none, none] (m_power a_ exponent_ modulus_)
  unfold m_power
  have hs_ := ((ev_op (opx_I (C := (fun _ j => 0 < j)) (g := fun i j => i % j)) mild_need (ev_int (i := 1)) (ev_var (i := 2) (x := modulus_) rfl)) : EvX K (W0 E) [some (.im (toD a_)), some (.im (toD exponent_)), some (.im (toD modulus_)), none, none, none] _ _)
  refine blk_seq (blk_set (i := 3) L trivial hs_ fun result_ => ?_)
  show Blk _ _ _ _ _ [some (.im (toD a_)), some (.im (toD exponent_)), some (.im (toD modulus_)), some (.im (toD result_)), none, none] _
  try refine Blk.nx ?_
  have hs_ := ((ev_op (opx_I (C := (fun _ j => 0 < j)) (g := fun i j => i % j)) mild_need (ev_var (i := 0) (x := a_) rfl) (ev_var (i := 2) (x := modulus_) rfl)) : EvX K (W0 E) [some (.im (toD a_)), some (.im (toD exponent_)), some (.im (toD modulus_)), some (.im (toD result_)), none, none] _ _)
  refine blk_seq (blk_set (i := 4) L trivial hs_ fun square_ => ?_)
  show Blk _ _ _ _ _ [some (.im (toD a_)), some (.im (toD exponent_)), some (.im (toD modulus_)), some (.im (toD result_)), some (.im (toD square_)), none] _
  try refine Blk.nx ?_
  have hs_ := ((ev_var (i := 1) (x := exponent_) rfl) : EvX K (W0 E) [some (.im (toD a_)), some (.im (toD exponent_)), some (.im (toD modulus_)), some (.im (toD result_)), some (.im (toD square_)), none] _ _)
  refine blk_seq (blk_set (i := 5) L trivial hs_ fun rest_ => ?_)
  show Blk _ _ _ _ _ [some (.im (toD a_)), some (.im (toD exponent_)), some (.im (toD modulus_)), some (.im (toD result_)), some (.im (toD square_)), some (.im (toD rest_))] _
  try refine Blk.nx ?_
  refine blk_seq (blk_while (S := Int × Int × Int) (m_power_w1 modulus_ (m_power_k3)) (fun (s : Int × Int × Int) => match s with | (result_, square_, rest_) => ((Res.ok rest_)).bind fun (t112 : Int) => ((Res.ok (0 : Int))).bind fun (t113 : Int) => Res.ok (decide (t113 < t112))) (fun n s => match s with | (result_, square_, rest_) => ((((Res.ok rest_)).bind fun (t114 : Int) => ((Res.ok (1 : Int))).bind fun (t115 : Int) => Res.ok (Builtin.bitAnd t114 t115)).bind fun (t116 : Int) => ((Res.ok (1 : Int))).bind fun (t117 : Int) => Res.ok (decide (t116 = t117))).bind fun b => cond b   (((((Res.ok result_)).bind fun (t124 : Int) => ((Res.ok square_)).bind fun (t125 : Int) => Res.need (CMulX t124 t125) (Res.ok (t124 * t125))).bind fun (t126 : Int) => ((Res.ok modulus_)).bind fun (t127 : Int) => Res.need (0 < t127) (Res.ok (t126 % t127))).bind fun (result_ : Int) =>   (m_power_k2 modulus_ square_ rest_ (m_power_w1 modulus_ (m_power_k3) n)) result_)   ((m_power_k2 modulus_ square_ rest_ (m_power_w1 modulus_ (m_power_k3) n)) result_)) (m_power_k3) (fun (result_, square_, rest_) => [some (.im (toD a_)), some (.im (toD exponent_)), some (.im (toD modulus_)), some (.im (toD result_)), some (.im (toD square_)), some (.im (toD rest_))]) (result_, square_, rest_) (rest_.toNat + 1) L ?_ (.same (.same (.same (.same (.same (.same .nil)))))) ?_ (fun ⟨_, _, _⟩ => rfl) (fun _ ⟨_, _, _⟩ => rfl) ?_ ?_)
  · rintro ⟨result_, square_, rest_⟩
    exact trivial
  · rintro ⟨result_, square_, rest_⟩
    exact ((et_test (ev_op (opx_B0 (g := fun i j => decide (j < i))) mild_ok (ev_var (i := 5) (x := rest_) rfl) (ev_int (i := 0)))) : EvT K (W0 E) [some (.im (toD a_)), some (.im (toD exponent_)), some (.im (toD modulus_)), some (.im (toD result_)), some (.im (toD square_)), some (.im (toD rest_))] _ _)
  · intro n1 s_ N_ hN1
    obtain ⟨result_, square_, rest_⟩ := s_
    show Blk _ _ _ _ _ [some (.im (toD a_)), some (.im (toD exponent_)), some (.im (toD modulus_)), some (.im (toD result_)), some (.im (toD square_)), some (.im (toD rest_))] _
    have ht_ := ((et_test (ev_op opx_eqI mild_ok (ev_op (opx_I0 (g := Builtin.bitAnd)) mild_ok (ev_var (i := 5) (x := rest_) rfl) (ev_int (i := 1))) (ev_int (i := 1)))) : EvT K (W0 E) [some (.im (toD a_)), some (.im (toD exponent_)), some (.im (toD modulus_)), some (.im (toD result_)), some (.im (toD square_)), some (.im (toD rest_))] _ _)
    refine blk_seq (blk_ifj (S := Int) (fun result_ => [some (.im (toD a_)), some (.im (toD exponent_)), some (.im (toD modulus_)), some (.im (toD result_)), some (.im (toD square_)), some (.im (toD rest_))]) (m_power_k2 modulus_ square_ rest_ (m_power_w1 modulus_ (m_power_k3) n1)) L trivial ht_ ?_ ?_ ?_)
    · intro result_
      show Blk _ _ _ _ _ [some (.im (toD a_)), some (.im (toD exponent_)), some (.im (toD modulus_)), some (.im (toD result_)), some (.im (toD square_)), some (.im (toD rest_))] ((m_power_k2 modulus_ square_ rest_ (m_power_w1 modulus_ (m_power_k3) n1)) result_)
      unfold m_power_k2
      try refine Blk.nx ?_
      have hs_ := ((ev_op (opx_I (C := (fun _ j => 0 < j)) (g := fun i j => i % j)) mild_need (ev_op (opx_I (C := CMulX) (g := fun i j => i * j)) mild_need (ev_var (i := 4) (x := square_) rfl) (ev_var (i := 4) (x := square_) rfl)) (ev_var (i := 2) (x := modulus_) rfl)) : EvX K (W0 E) [some (.im (toD a_)), some (.im (toD exponent_)), some (.im (toD modulus_)), some (.im (toD result_)), some (.im (toD square_)), some (.im (toD rest_))] _ _)
      refine blk_seq (blk_set (i := 4) L trivial hs_ fun square_ => ?_)
      show Blk _ _ _ _ _ [some (.im (toD a_)), some (.im (toD exponent_)), some (.im (toD modulus_)), some (.im (toD result_)), some (.im (toD square_)), some (.im (toD rest_))] _
      try refine Blk.nx ?_
      have hs_ := ((ev_opI (C := (fun _ j => 0 ≤ j)) (g := fun i j => i / 2 ^ j.toNat) (fun x y _ h => by cases h; (show (0 : Int) ≤ _; decide)) (ev_var (i := 5) (x := rest_) rfl) (ev_int (i := 1))) : EvX K (W0 E) [some (.im (toD a_)), some (.im (toD exponent_)), some (.im (toD modulus_)), some (.im (toD result_)), some (.im (toD square_)), some (.im (toD rest_))] _ _)
      refine blk_set (i := 5) L trivial hs_ fun rest_ => ?_
      show Blk _ _ _ _ _ [some (.im (toD a_)), some (.im (toD exponent_)), some (.im (toD modulus_)), some (.im (toD result_)), some (.im (toD square_)), some (.im (toD rest_))] _
      try refine Blk.nx ?_
      exact (hN1 (result_, square_, rest_)).weak (.same (.same (.same (.same (.same (.same .nil))))))
    · intro hk2
      have hs_ := ((ev_op (opx_I (C := (fun _ j => 0 < j)) (g := fun i j => i % j)) mild_need (ev_op (opx_I (C := CMulX) (g := fun i j => i * j)) mild_need (ev_var (i := 3) (x := result_) rfl) (ev_var (i := 4) (x := square_) rfl)) (ev_var (i := 2) (x := modulus_) rfl)) : EvX K (W0 E) [some (.im (toD a_)), some (.im (toD exponent_)), some (.im (toD modulus_)), some (.im (toD result_)), some (.im (toD square_)), some (.im (toD rest_))] _ _)
      refine blk_set (i := 3) L trivial hs_ fun result_ => ?_
      show Blk _ _ _ _ _ [some (.im (toD a_)), some (.im (toD exponent_)), some (.im (toD modulus_)), some (.im (toD result_)), some (.im (toD square_)), some (.im (toD rest_))] _
      try refine Blk.nx ?_
      exact (hk2 result_).weak (.same (.same (.same (.same (.same (.same .nil))))))
    · intro hk2
      refine blk_nil ?_
      try refine Blk.nx ?_
      exact (hk2 result_).weak (.same (.same (.same (.same (.same (.same .nil))))))
  · rintro ⟨result_, square_, rest_⟩
    show Blk _ _ _ _ _ [some (.im (toD a_)), some (.im (toD exponent_)), some (.im (toD modulus_)), some (.im (toD result_)), some (.im (toD square_)), some (.im (toD rest_))] ((m_power_k3) (result_, square_, rest_))
    unfold m_power_k3
    try refine Blk.nx ?_
    have hr_ := ((ev_var (i := 3) (x := result_) rfl) : EvX K (W0 E) [some (.im (toD a_)), some (.im (toD exponent_)), some (.im (toD modulus_)), some (.im (toD result_)), some (.im (toD square_)), some (.im (toD rest_))] _ _)
    exact blk_ret L trivial hr_
noncomputable def m_square_class (a_ : Int) (prime_ : Int) : Res Int :=
  ((((Res.ok a_)).bind fun (t128 : Int) => ((Res.ok prime_)).bind fun (t129 : Int) => Res.need (0 < t129) (Res.ok (t128 % t129))).bind fun (t130 : Int) => ((Res.ok (0 : Int))).bind fun (t131 : Int) => Res.ok (decide (t130 = t131))).bind fun b => cond b   ((Res.ok (0 : Int)))   ((((((Res.ok a_)).bind fun a137 => (((((Res.ok prime_)).bind fun (t132 : Int) => ((Res.ok (1 : Int))).bind fun (t133 : Int) => Res.ok (t132 - t133)).bind fun (t134 : Int) => ((Res.ok (2 : Int))).bind fun (t135 : Int) => Res.ok (t134 / t135)).bind fun a139 => (((Res.ok prime_)).bind fun a141 => (Res.ok ()).bind fun a142 => Res.ok (a141, a142)).bind fun a140 => Res.ok (a139, a140)).bind fun a138 => Res.ok (a137, a138)).bind fun p136 => m_power p136.1 p136.2.1 p136.2.2.1).bind fun (t143 : Int) => ((Res.ok (1 : Int))).bind fun (t144 : Int) => Res.ok (decide (t143 = t144))).bind fun b => cond b   ((Res.ok (1 : Int)))   (((Res.ok (1 : Int))).bind fun (t145 : Int) => Res.ok (-t145)))
theorem ok_square_class {P : Program} {w : World} {K : PySem.W.Frag} {mg : Str → Option Value} {base : Heap} (T : Facts K mg) {fd : FuncData} (F : FnP K "square_class" "square_class" s_square_class (He.ga K "square_class") fd) :
    FnOk P w K mg base (L2.CX P w) 2 (He.ga K "square_class") fd ["a", "prime"] (spM K (fun (p : Int × Int × Unit) => m_square_class p.1 p.2.1)) := by
  obtain ⟨fd_power, F_power⟩ := T.d_power
  have G_power := ok_power (P := P) (w := w) (base := base) T F_power
  have b_power : Binds K fd_power ["a", "exponent", "modulus"] [] := F_power.bindsN fun _ _ _ _ _ _ us hl => match us, hl with | [_, _, _], _ => rfl
  refine fn_ok F sc_square_class (fun y => rfl) (fun cdv A outer s H E hr => ?_)
  refine ⟨_, (pss_cons (ps_if (pt_cmpR op_eq (pe_op op_mod (pv 0) (pv 1)) pe_int (nomark _)) (pss_one (ps_ret pe_int)) pss_nil) (pss_cons (ps_if (pt_cmpR op_eq (pe_callS G_power (hr.mono (by decide)) rfl T.g_power F_power.kp b_power (fun σ => passAt (takes_of rfl rfl rfl rfl) σ) (pa_cons (pv 0) (pa_cons (pe_op op_fdiv (pe_op op_sub (pv 1) pe_int) pe_int) (pa_cons (pv 1) pa_nil)))) pe_int (nomark _)) (pss_one (ps_ret pe_int)) pss_nil) (pss_one (ps_ret (pe_un un_neg pe_int))))), ?_⟩
  rintro ⟨a_, prime_, ⟨⟩⟩ F0 H0 Q KP L
  show Blk K F0 H0 KP _ [some (.im (toD a_)), some (.im (toD prime_))] (m_square_class a_ prime_)
  unfold m_square_class
  have ht_ := ((et_test (ev_op opx_eqI mild_ok (ev_op (opx_I (C := (fun _ j => 0 < j)) (g := fun i j => i % j)) mild_need (ev_var (i := 0) (x := a_) rfl) (ev_var (i := 1) (x := prime_) rfl)) (ev_int (i := 0)))) : EvT K (W0 E) [some (.im (toD a_)), some (.im (toD prime_))] _ _)
  refine blk_seq (blk_if2 L trivial ht_ ?_ ?_)
  · have hr_ := ((ev_int (i := 0)) : EvX K (W0 E) [some (.im (toD a_)), some (.im (toD prime_))] _ _)
    exact blk_ret L trivial hr_
  · refine blk_nil ?_
    try refine Blk.nx ?_
    have ht_ := ((et_test (ev_op opx_eqI mild_ok (ev_call (f := (fun (p : Int × Int × Int × Unit) => m_power p.1 p.2.1 p.2.2.1)) (ea_cons (ev_var (i := 0) (x := a_) rfl) (ea_cons (ev_opI (C := CDiv) (g := fun i j => i / j) (fun x y _ h => by cases h; exact ⟨by decide, by decide⟩) (ev_op (opx_I0 (g := fun i j => i - j)) mild_ok (ev_var (i := 1) (x := prime_) rfl) (ev_int (i := 1))) (ev_int (i := 2))) (ea_cons (ev_var (i := 1) (x := prime_) rfl) ea_nil)))) (ev_int (i := 1)))) : EvT K (W0 E) [some (.im (toD a_)), some (.im (toD prime_))] _ _)
    refine blk_seq (blk_if2 L trivial ht_ ?_ ?_)
    · have hr_ := ((ev_int (i := 1)) : EvX K (W0 E) [some (.im (toD a_)), some (.im (toD prime_))] _ _)
      exact blk_ret L trivial hr_
    · refine blk_nil ?_
      try refine Blk.nx ?_
      have hr_ := ((ev_un (g := fun i => -i) (ev_int (i := 1))) : EvX K (W0 E) [some (.im (toD a_)), some (.im (toD prime_))] _ _)
      exact blk_ret L trivial hr_
noncomputable def m_split_twos (number_ : Int) : Res (T2 Int Int) :=
  (((((Res.ok number_)).bind fun (t147 : Int) => (((Res.ok number_)).bind fun (t146 : Int) => Res.ok (-t146)).bind fun (t148 : Int) => Res.ok (Builtin.bitAnd t147 t148)).bind fun (t149 : Int) => Res.ok ((Builtin.Int.intBits t149 : Nat) : Int)).bind fun (t150 : Int) => ((Res.ok (1 : Int))).bind fun (t151 : Int) => Res.ok (t150 - t151)).bind fun (twos_ : Int) =>   ((((Res.ok number_)).bind fun (t152 : Int) => ((Res.ok twos_)).bind fun (t153 : Int) => Res.need (0 ≤ t153) (Res.ok (t152 / 2 ^ t153.toNat))).bind fun a155 => (((Res.ok twos_)).bind fun a157 => (Res.ok ()).bind fun a158 => Res.ok (a157, a158)).bind fun a156 => Res.ok (a155, a156)).bind fun p154 => Res.ok (T2.mk p154.1 p154.2.1)
theorem ok_split_twos {P : Program} {w : World} {K : PySem.W.Frag} {mg : Str → Option Value} {base : Heap} (T : Facts K mg) {fd : FuncData} (F : FnP K "split_twos" "split_twos" s_split_twos (He.ga K "split_twos") fd) :
    FnOk P w K mg base (L2.CX P w) 1 (He.ga K "split_twos") fd ["number"] (spM K (fun (p : Int × Unit) => m_split_twos p.1)) := by
  refine fn_ok F sc_split_twos (fun y => rfl) (fun cdv A outer s H E hr => ?_)
  refine ⟨_, (pss_cons (ps_set (i := 1) sc_split_twos.nd rfl (Or.inl rfl) (pe_op op_sub (pe_bits (pe_op op_and (pv 0) (pe_un un_neg (pv 0)))) pe_int)) (pss_one (ps_ret (pe_tup (pa_cons (pe_op op_shr (pv 0) (pv 1)) (pa_cons (pv 1) pa_nil)))))), ?_⟩
  rintro ⟨number_, ⟨⟩⟩ F0 H0 Q KP L
  show Blk K F0 H0 KP _ [some (.im (toD number_)), none] (m_split_twos number_)
  unfold m_split_twos
  have hs_ := ((ev_op (opx_I0 (g := fun i j => i - j)) mild_ok (ev_bits (ev_op (opx_I0 (g := Builtin.bitAnd)) mild_ok (ev_var (i := 0) (x := number_) rfl) (ev_un (g := fun i => -i) (ev_var (i := 0) (x := number_) rfl)))) (ev_int (i := 1))) : EvX K (W0 E) [some (.im (toD number_)), none] _ _)
  refine blk_seq (blk_set (i := 1) L trivial hs_ fun twos_ => ?_)
  show Blk _ _ _ _ _ [some (.im (toD number_)), some (.im (toD twos_))] _
  try refine Blk.nx ?_
  have hr_ := ((ev_tup (f := (fun y => T2.mk y.1 y.2.1)) (ea_cons (ev_op (opx_I (C := (fun _ j => 0 ≤ j)) (g := fun i j => i / 2 ^ j.toNat)) mild_need (ev_var (i := 0) (x := number_) rfl) (ev_var (i := 1) (x := twos_) rfl)) (ea_cons (ev_var (i := 1) (x := twos_) rfl) ea_nil)) (fun _ => rfl) (fun _ => by show 2 ≤ 100000; decide)) : EvX K (W0 E) [some (.im (toD number_)), some (.im (toD twos_))] _ _)
  exact blk_ret L trivial hr_
noncomputable def m_u_non_square_w1 (prime_ : Int) (k1 : Int → Res Int) : Nat → Int → Res Int
  | 0, _ => Res.stuck
  | n1 + 1, number_ => (((((Res.ok number_)).bind fun a160 => (((Res.ok prime_)).bind fun a162 => (Res.ok ()).bind fun a163 => Res.ok (a162, a163)).bind fun a161 => Res.ok (a160, a161)).bind fun p159 => m_square_class p159.1 p159.2.1).bind fun (t165 : Int) => (((Res.ok (1 : Int))).bind fun (t164 : Int) => Res.ok (-t164)).bind fun (t166 : Int) => Res.ok (!decide (t165 = t166))).bind fun b => cond b   (((Res.ok (1 : Int))).bind fun (y167 : Int) => (fun (number_ : Int) => m_u_non_square_w1 prime_ k1 n1 number_) (number_ + y167))   (k1 number_)
noncomputable def m_u_non_square_k2 : Int → Res Int := fun number_ =>   (Res.ok number_)
noncomputable def m_u_non_square (prime_ : Int) : Res Int :=
  ((Res.ok (2 : Int))).bind fun (number_ : Int) =>   m_u_non_square_w1 prime_ (m_u_non_square_k2) (prime_.toNat + 1) number_
theorem ok_u_non_square {P : Program} {w : World} {K : PySem.W.Frag} {mg : Str → Option Value} {base : Heap} (T : Facts K mg) {fd : FuncData} (F : FnP K "_non_square" "_non_square" s_u_non_square (He.ga K "_non_square") fd) :
    FnOk P w K mg base (L2.CX P w) 3 (He.ga K "_non_square") fd ["prime"] (spM K (fun (p : Int × Unit) => m_u_non_square p.1)) := by
  obtain ⟨fd_square_class, F_square_class⟩ := T.d_square_class
  have G_square_class := ok_square_class (P := P) (w := w) (base := base) T F_square_class
  have b_square_class : Binds K fd_square_class ["a", "prime"] [] := F_square_class.bindsN fun _ _ _ _ _ _ us hl => match us, hl with | [_, _], _ => rfl
  refine fn_ok F sc_u_non_square (fun y => rfl) (fun cdv A outer s H E hr => ?_)
  refine ⟨_, (pss_cons (ps_set (i := 1) sc_u_non_square.nd rfl (Or.inl rfl) pe_int) (pss_cons (ps_while (passes_of rfl) (pt_cmpR op_ne (pe_callS G_square_class (hr.mono (by decide)) rfl T.g_square_class F_square_class.kp b_square_class (fun σ => passAt (takes_of rfl rfl rfl rfl) σ) (pa_cons (pv 1) (pa_cons (pv 0) pa_nil))) (pe_un un_neg pe_int) (nomark _)) (pss_one (ps_aug (i := 1) sc_u_non_square.nd rfl (Or.inl rfl) pe_int ip_add))) (pss_one (ps_ret (pv 1))))), ?_⟩
  rintro ⟨prime_, ⟨⟩⟩ F0 H0 Q KP L
  show Blk K F0 H0 KP _ [some (.im (toD prime_)), none] (m_u_non_square prime_)
  unfold m_u_non_square
  have hs_ := ((ev_int (i := 2)) : EvX K (W0 E) [some (.im (toD prime_)), none] _ _)
  refine blk_seq (blk_set (i := 1) L trivial hs_ fun number_ => ?_)
  show Blk _ _ _ _ _ [some (.im (toD prime_)), some (.im (toD number_))] _
  try refine Blk.nx ?_
  refine blk_seq (blk_while (S := Int) (m_u_non_square_w1 prime_ (m_u_non_square_k2)) (fun (s : Int) => match s with | number_ => ((((Res.ok number_)).bind fun a160 => (((Res.ok prime_)).bind fun a162 => (Res.ok ()).bind fun a163 => Res.ok (a162, a163)).bind fun a161 => Res.ok (a160, a161)).bind fun p159 => m_square_class p159.1 p159.2.1).bind fun (t165 : Int) => (((Res.ok (1 : Int))).bind fun (t164 : Int) => Res.ok (-t164)).bind fun (t166 : Int) => Res.ok (!decide (t165 = t166))) (fun n s => match s with | number_ => ((Res.ok (1 : Int))).bind fun (y167 : Int) => (fun (number_ : Int) => m_u_non_square_w1 prime_ (m_u_non_square_k2) n number_) (number_ + y167)) (m_u_non_square_k2) (fun number_ => [some (.im (toD prime_)), some (.im (toD number_))]) number_ (prime_.toNat + 1) L ?_ (.same (.same .nil)) ?_ (fun _ => rfl) (fun _ _ => rfl) ?_ ?_)
  · intro number_
    exact trivial
  · intro number_
    exact ((et_test (ev_op opx_neI mild_ok (ev_call (f := (fun (p : Int × Int × Unit) => m_square_class p.1 p.2.1)) (ea_cons (ev_var (i := 1) (x := number_) rfl) (ea_cons (ev_var (i := 0) (x := prime_) rfl) ea_nil))) (ev_un (g := fun i => -i) (ev_int (i := 1))))) : EvT K (W0 E) [some (.im (toD prime_)), some (.im (toD number_))] _ _)
  · intro n1 s_ N_ hN1
    revert s_; intro number_
    show Blk _ _ _ _ _ [some (.im (toD prime_)), some (.im (toD number_))] _
    have hs_ := ((ev_int (i := 1)) : EvX K (W0 E) [some (.im (toD prime_)), some (.im (toD number_))] _ _)
    refine blk_aug (i := 1) (x := number_) (g := fun i j => i + j) L trivial rfl hs_ fun y168 => ?_
    show Blk _ _ _ _ _ [some (.im (toD prime_)), some (.im (toD (number_ + y168)))] ((fun (number_ : Int) => _) (number_ + y168))
    generalize number_ + y168 = number_
    show Blk _ _ _ _ _ [some (.im (toD prime_)), some (.im (toD number_))] _
    try refine Blk.nx ?_
    exact (hN1 number_).weak (.same (.same .nil))
  · intro number_
    show Blk _ _ _ _ _ [some (.im (toD prime_)), some (.im (toD number_))] ((m_u_non_square_k2) number_)
    unfold m_u_non_square_k2
    try refine Blk.nx ?_
    have hr_ := ((ev_var (i := 1) (x := number_) rfl) : EvX K (W0 E) [some (.im (toD prime_)), some (.im (toD number_))] _ _)
    exact blk_ret L trivial hr_
noncomputable def m_u_root_of_square_k3 (prime_ : Int) (helper_ : Int) (g2 : Int × Int × Int → Res Int) : Int × Int → Res Int := fun (root_, rest_) =>   ((((Res.ok helper_)).bind fun (t223 : Int) => ((Res.ok helper_)).bind fun (t224 : Int) => Res.need (CMulX t223 t224) (Res.ok (t223 * t224))).bind fun (t225 : Int) => ((Res.ok prime_)).bind fun (t226 : Int) => Res.need (0 < t226) (Res.ok (t225 % t226))).bind fun (helper_ : Int) =>   g2 (root_, rest_, helper_)
noncomputable def m_u_root_of_square_l2 (prime_ : Int) (k2 : Int × Int × Int → Res Int) : List Int → Int × Int × Int → Res Int
  | [], s => k2 s
  | x211 :: r2, (root_, rest_, helper_) =>   (fun (level_ : Int) => (((((Res.ok rest_)).bind fun a215 => ((((Res.ok (1 : Int))).bind fun (t212 : Int) => ((Res.ok level_)).bind fun (t213 : Int) => Res.need (CShl t212 t213) (Res.ok (t212 * 2 ^ t213.toNat))).bind fun a217 => (((Res.ok prime_)).bind fun a219 => (Res.ok ()).bind fun a220 => Res.ok (a219, a220)).bind fun a218 => Res.ok (a217, a218)).bind fun a216 => Res.ok (a215, a216)).bind fun p214 => m_power p214.1 p214.2.1 p214.2.2.1).bind fun (t221 : Int) => ((Res.ok (1 : Int))).bind fun (t222 : Int) => Res.ok (!decide (t221 = t222))).bind fun b => cond b   (((((Res.ok root_)).bind fun (t227 : Int) => ((Res.ok helper_)).bind fun (t228 : Int) => Res.need (CMulX t227 t228) (Res.ok (t227 * t228))).bind fun (t229 : Int) => ((Res.ok prime_)).bind fun (t230 : Int) => Res.need (0 < t230) (Res.ok (t229 % t230))).bind fun (root_ : Int) =>   (((((Res.ok rest_)).bind fun (t231 : Int) => ((Res.ok helper_)).bind fun (t232 : Int) => Res.need (CMulX t231 t232) (Res.ok (t231 * t232))).bind fun (t233 : Int) => ((Res.ok helper_)).bind fun (t234 : Int) => Res.need (CMulX t233 t234) (Res.ok (t233 * t234))).bind fun (t235 : Int) => ((Res.ok prime_)).bind fun (t236 : Int) => Res.need (0 < t236) (Res.ok (t235 % t236))).bind fun (rest_ : Int) =>   (m_u_root_of_square_k3 prime_ helper_ (m_u_root_of_square_l2 prime_ k2 r2)) (root_, rest_))   ((m_u_root_of_square_k3 prime_ helper_ (m_u_root_of_square_l2 prime_ k2 r2)) (root_, rest_))) x211
noncomputable def m_u_root_of_square_k4 : Int × Int × Int → Res Int := fun (root_, rest_, helper_) =>   (Res.ok root_)
noncomputable def m_u_root_of_square (a_ : Int) (prime_ : Int) : Res Int :=
  (((((Res.ok prime_)).bind fun (t169 : Int) => ((Res.ok (1 : Int))).bind fun (t170 : Int) => Res.ok (t169 - t170)).bind fun a172 => (Res.ok ()).bind fun a173 => Res.ok (a172, a173)).bind fun p171 => m_split_twos p171.1).bind fun (u174 : (T2 Int Int)) =>   (fun (odd_ : Int) (twos_ : Int) => ((((Res.ok a_)).bind fun a180 => (((((Res.ok odd_)).bind fun (t175 : Int) => ((Res.ok (1 : Int))).bind fun (t176 : Int) => Res.ok (t175 + t176)).bind fun (t177 : Int) => ((Res.ok (2 : Int))).bind fun (t178 : Int) => Res.ok (t177 / t178)).bind fun a182 => (((Res.ok prime_)).bind fun a184 => (Res.ok ()).bind fun a185 => Res.ok (a184, a185)).bind fun a183 => Res.ok (a182, a183)).bind fun a181 => Res.ok (a180, a181)).bind fun p179 => m_power p179.1 p179.2.1 p179.2.2.1).bind fun (root_ : Int) =>   ((((Res.ok a_)).bind fun a187 => (((Res.ok odd_)).bind fun a189 => (((Res.ok prime_)).bind fun a191 => (Res.ok ()).bind fun a192 => Res.ok (a191, a192)).bind fun a190 => Res.ok (a189, a190)).bind fun a188 => Res.ok (a187, a188)).bind fun p186 => m_power p186.1 p186.2.1 p186.2.2.1).bind fun (rest_ : Int) =>   (((Res.ok twos_)).bind fun (t193 : Int) => ((Res.ok (2 : Int))).bind fun (t194 : Int) => Res.ok (decide (t193 < t194))).bind fun b => cond b   ((Res.ok root_))   (((((((Res.ok prime_)).bind fun a196 => (Res.ok ()).bind fun a197 => Res.ok (a196, a197)).bind fun p195 => m_u_non_square p195.1).bind fun a199 => (((Res.ok odd_)).bind fun a201 => (((Res.ok prime_)).bind fun a203 => (Res.ok ()).bind fun a204 => Res.ok (a203, a204)).bind fun a202 => Res.ok (a201, a202)).bind fun a200 => Res.ok (a199, a200)).bind fun p198 => m_power p198.1 p198.2.1 p198.2.2.1).bind fun (helper_ : Int) =>   ((((Res.ok twos_)).bind fun (t205 : Int) => ((Res.ok (2 : Int))).bind fun (t206 : Int) => Res.ok (t205 - t206)).bind fun (t209 : Int) => (((Res.ok (1 : Int))).bind fun (t207 : Int) => Res.ok (-t207)).bind fun (t210 : Int) => Res.need (okRange t209 ∧ okRange t210) (Res.ok (pyDown t209 t210))).bind fun (xs237 : List Int) => m_u_root_of_square_l2 prime_ (m_u_root_of_square_k4) xs237 (root_, rest_, helper_))) u174.a u174.b
theorem ok_u_root_of_square {P : Program} {w : World} {K : PySem.W.Frag} {mg : Str → Option Value} {base : Heap} (T : Facts K mg) {fd : FuncData} (F : FnP K "_root_of_square" "_root_of_square" s_u_root_of_square (He.ga K "_root_of_square") fd) :
    FnOk P w K mg base (L2.CX P w) 4 (He.ga K "_root_of_square") fd ["a", "prime"] (spM K (fun (p : Int × Int × Unit) => m_u_root_of_square p.1 p.2.1)) := by
  obtain ⟨fd_u_non_square, F_u_non_square⟩ := T.d_u_non_square
  have G_u_non_square := ok_u_non_square (P := P) (w := w) (base := base) T F_u_non_square
  have b_u_non_square : Binds K fd_u_non_square ["prime"] [] := F_u_non_square.bindsN fun _ _ _ _ _ _ us hl => match us, hl with | [_], _ => rfl
  obtain ⟨fd_power, F_power⟩ := T.d_power
  have G_power := ok_power (P := P) (w := w) (base := base) T F_power
  have b_power : Binds K fd_power ["a", "exponent", "modulus"] [] := F_power.bindsN fun _ _ _ _ _ _ us hl => match us, hl with | [_, _, _], _ => rfl
  obtain ⟨fd_split_twos, F_split_twos⟩ := T.d_split_twos
  have G_split_twos := ok_split_twos (P := P) (w := w) (base := base) T F_split_twos
  have b_split_twos : Binds K fd_split_twos ["number"] [] := F_split_twos.bindsN fun _ _ _ _ _ _ us hl => match us, hl with | [_], _ => rfl
  refine fn_ok F sc_u_root_of_square (fun y => rfl) (fun cdv A outer s H E hr => ?_)
  refine ⟨_, (pss_cons (ps_asg (pe_callS G_split_twos (hr.mono (by decide)) rfl T.g_split_twos F_split_twos.kp b_split_twos (fun σ => passAt (takes_of rfl rfl rfl rfl) σ) (pa_cons (pe_op op_sub (pv 1) pe_int) pa_nil)) (pg_tup rfl (pgs_cons (pg_name (i := 2) sc_u_root_of_square.nd rfl (Or.inl rfl)) (pgs_cons (pg_name (i := 3) sc_u_root_of_square.nd rfl (Or.inl rfl)) pgs_nil)))) (pss_cons (ps_set (i := 4) sc_u_root_of_square.nd rfl (Or.inl rfl) (pe_callS G_power (hr.mono (by decide)) rfl T.g_power F_power.kp b_power (fun σ => passAt (takes_of rfl rfl rfl rfl) σ) (pa_cons (pv 0) (pa_cons (pe_op op_fdiv (pe_op op_add (pv 2) pe_int) pe_int) (pa_cons (pv 1) pa_nil))))) (pss_cons (ps_set (i := 5) sc_u_root_of_square.nd rfl (Or.inl rfl) (pe_callS G_power (hr.mono (by decide)) rfl T.g_power F_power.kp b_power (fun σ => passAt (takes_of rfl rfl rfl rfl) σ) (pa_cons (pv 0) (pa_cons (pv 2) (pa_cons (pv 1) pa_nil))))) (pss_cons (ps_if (pt_cmpR op_lt (pv 3) pe_int (nomark _)) (pss_one (ps_ret (pv 4))) pss_nil) (pss_cons (ps_set (i := 6) sc_u_root_of_square.nd rfl (Or.inl rfl) (pe_callS G_power (hr.mono (by decide)) rfl T.g_power F_power.kp b_power (fun σ => passAt (takes_of rfl rfl rfl rfl) σ) (pa_cons (pe_callS G_u_non_square (hr.mono (by decide)) rfl T.g_u_non_square F_u_non_square.kp b_u_non_square (fun σ => passAt (takes_of rfl rfl rfl rfl) σ) (pa_cons (pv 1) pa_nil)) (pa_cons (pv 2) (pa_cons (pv 1) pa_nil))))) (pss_cons (ps_for (passes_of rfl) rfl (pi_range3 rfl T.n_range (pa_cons (pe_op op_sub (pv 3) pe_int) (pa_cons (pe_un un_neg pe_int) (pa_cons (pe_un un_neg pe_int) pa_nil)))) (pg_name (i := 7) sc_u_root_of_square.nd rfl (Or.inl rfl)) (pss_cons (ps_if (pt_cmpR op_ne (pe_callS G_power (hr.mono (by decide)) rfl T.g_power F_power.kp b_power (fun σ => passAt (takes_of rfl rfl rfl rfl) σ) (pa_cons (pv 5) (pa_cons (pe_op op_shlW pe_int (pv 7)) (pa_cons (pv 1) pa_nil)))) pe_int (nomark _)) (pss_cons (ps_set (i := 4) sc_u_root_of_square.nd rfl (Or.inl rfl) (pe_op op_mod (pe_op op_mulX (pv 4) (pv 6)) (pv 1))) (pss_one (ps_set (i := 5) sc_u_root_of_square.nd rfl (Or.inl rfl) (pe_op op_mod (pe_op op_mulX (pe_op op_mulX (pv 5) (pv 6)) (pv 6)) (pv 1))))) pss_nil) (pss_one (ps_set (i := 6) sc_u_root_of_square.nd rfl (Or.inl rfl) (pe_op op_mod (pe_op op_mulX (pv 6) (pv 6)) (pv 1)))))) (pss_one (ps_ret (pv 4))))))))), ?_⟩
  rintro ⟨a_, prime_, ⟨⟩⟩ F0 H0 Q KP L
  show Blk K F0 H0 KP _ [some (.im (toD a_)), some (.im (toD prime_)), none, none, none, none, none, none] (m_u_root_of_square a_ prime_)
  unfold m_u_root_of_square
  have hs_ := ((ev_call (f := (fun (p : Int × Unit) => m_split_twos p.1)) (ea_cons (ev_op (opx_I0 (g := fun i j => i - j)) mild_ok (ev_var (i := 1) (x := prime_) rfl) (ev_int (i := 1))) ea_nil)) : EvX K (W0 E) [some (.im (toD a_)), some (.im (toD prime_)), none, none, none, none, none, none] _ _)
  refine blk_seq (blk_asg L trivial hs_ (fun _ => (gx_tup (gxs_cons gx_name (gxs_cons gx_name gxs_nil)) rfl)) fun u174 => ?_)
  show Blk _ _ _ _ _ [some (.im (toD a_)), some (.im (toD prime_)), some (.im (toD u174.a)), some (.im (toD u174.b)), none, none, none, none] ((fun (odd_ : Int) (twos_ : Int) => _) u174.a u174.b)
  generalize u174.a = odd_
  generalize u174.b = twos_
  show Blk _ _ _ _ _ [some (.im (toD a_)), some (.im (toD prime_)), some (.im (toD odd_)), some (.im (toD twos_)), none, none, none, none] _
  try refine Blk.nx ?_
  have hs_ := ((ev_call (f := (fun (p : Int × Int × Int × Unit) => m_power p.1 p.2.1 p.2.2.1)) (ea_cons (ev_var (i := 0) (x := a_) rfl) (ea_cons (ev_opI (C := CDiv) (g := fun i j => i / j) (fun x y _ h => by cases h; exact ⟨by decide, by decide⟩) (ev_op (opx_I0 (g := fun i j => i + j)) mild_ok (ev_var (i := 2) (x := odd_) rfl) (ev_int (i := 1))) (ev_int (i := 2))) (ea_cons (ev_var (i := 1) (x := prime_) rfl) ea_nil)))) : EvX K (W0 E) [some (.im (toD a_)), some (.im (toD prime_)), some (.im (toD odd_)), some (.im (toD twos_)), none, none, none, none] _ _)
  refine blk_seq (blk_set (i := 4) L trivial hs_ fun root_ => ?_)
  show Blk _ _ _ _ _ [some (.im (toD a_)), some (.im (toD prime_)), some (.im (toD odd_)), some (.im (toD twos_)), some (.im (toD root_)), none, none, none] _
  try refine Blk.nx ?_
  have hs_ := ((ev_call (f := (fun (p : Int × Int × Int × Unit) => m_power p.1 p.2.1 p.2.2.1)) (ea_cons (ev_var (i := 0) (x := a_) rfl) (ea_cons (ev_var (i := 2) (x := odd_) rfl) (ea_cons (ev_var (i := 1) (x := prime_) rfl) ea_nil)))) : EvX K (W0 E) [some (.im (toD a_)), some (.im (toD prime_)), some (.im (toD odd_)), some (.im (toD twos_)), some (.im (toD root_)), none, none, none] _ _)
  refine blk_seq (blk_set (i := 5) L trivial hs_ fun rest_ => ?_)
  show Blk _ _ _ _ _ [some (.im (toD a_)), some (.im (toD prime_)), some (.im (toD odd_)), some (.im (toD twos_)), some (.im (toD root_)), some (.im (toD rest_)), none, none] _
  try refine Blk.nx ?_
  have ht_ := ((et_test (ev_op (opx_B0 (g := fun i j => decide (i < j))) mild_ok (ev_var (i := 3) (x := twos_) rfl) (ev_int (i := 2)))) : EvT K (W0 E) [some (.im (toD a_)), some (.im (toD prime_)), some (.im (toD odd_)), some (.im (toD twos_)), some (.im (toD root_)), some (.im (toD rest_)), none, none] _ _)
  refine blk_seq (blk_if2 L trivial ht_ ?_ ?_)
  · have hr_ := ((ev_var (i := 4) (x := root_) rfl) : EvX K (W0 E) [some (.im (toD a_)), some (.im (toD prime_)), some (.im (toD odd_)), some (.im (toD twos_)), some (.im (toD root_)), some (.im (toD rest_)), none, none] _ _)
    exact blk_ret L trivial hr_
  · refine blk_nil ?_
    try refine Blk.nx ?_
    have hs_ := ((ev_call (f := (fun (p : Int × Int × Int × Unit) => m_power p.1 p.2.1 p.2.2.1)) (ea_cons (ev_call (f := (fun (p : Int × Unit) => m_u_non_square p.1)) (ea_cons (ev_var (i := 1) (x := prime_) rfl) ea_nil)) (ea_cons (ev_var (i := 2) (x := odd_) rfl) (ea_cons (ev_var (i := 1) (x := prime_) rfl) ea_nil)))) : EvX K (W0 E) [some (.im (toD a_)), some (.im (toD prime_)), some (.im (toD odd_)), some (.im (toD twos_)), some (.im (toD root_)), some (.im (toD rest_)), none, none] _ _)
    refine blk_seq (blk_set (i := 6) L trivial hs_ fun helper_ => ?_)
    show Blk _ _ _ _ _ [some (.im (toD a_)), some (.im (toD prime_)), some (.im (toD odd_)), some (.im (toD twos_)), some (.im (toD root_)), some (.im (toD rest_)), some (.im (toD helper_)), none] _
    try refine Blk.nx ?_
    have hi_ := ((ei_down (ev_op (opx_I0 (g := fun i j => i - j)) mild_ok (ev_var (i := 3) (x := twos_) rfl) (ev_int (i := 2))) (ev_un (g := fun i => -i) (ev_int (i := 1))) (ev_un (g := fun i => -i) (ev_int (i := 1)))) : EvI K (W0 E) [some (.im (toD a_)), some (.im (toD prime_)), some (.im (toD odd_)), some (.im (toD twos_)), some (.im (toD root_)), some (.im (toD rest_)), some (.im (toD helper_)), none] _ _)
    refine blk_seq (blk_for (S := Int × Int × Int) (m_u_root_of_square_l2 prime_ (m_u_root_of_square_k4)) (m_u_root_of_square_k4) (fun (root_, rest_, helper_) => [some (.im (toD a_)), some (.im (toD prime_)), some (.im (toD odd_)), some (.im (toD twos_)), some (.im (toD root_)), some (.im (toD rest_)), some (.im (toD helper_)), none]) (root_, rest_, helper_) L trivial hi_ (fun _ => gx_name) (.same (.same (.same (.same (.same (.same (.same (.same .nil)))))))) (fun _ => rfl) ?_ ?_)
    · intro F2 L2 hB2 x211 r2 s_ N_ hN2
      obtain ⟨root_, rest_, helper_⟩ := s_
      show Blk _ _ _ _ _ [some (.im (toD a_)), some (.im (toD prime_)), some (.im (toD odd_)), some (.im (toD twos_)), some (.im (toD root_)), some (.im (toD rest_)), some (.im (toD helper_)), some (.im (toD x211))] (m_u_root_of_square_l2 prime_ (m_u_root_of_square_k4) (x211 :: r2) (root_, rest_, helper_))
      rw [m_u_root_of_square_l2]
      show Blk _ _ _ _ _ _ ((fun (level_ : Int) => _) x211)
      generalize x211 = level_
      show Blk _ _ _ _ _ [some (.im (toD a_)), some (.im (toD prime_)), some (.im (toD odd_)), some (.im (toD twos_)), some (.im (toD root_)), some (.im (toD rest_)), some (.im (toD helper_)), some (.im (toD level_))] _
      have ht_ := ((et_test (ev_op opx_neI mild_ok (ev_call (f := (fun (p : Int × Int × Int × Unit) => m_power p.1 p.2.1 p.2.2.1)) (ea_cons (ev_var (i := 5) (x := rest_) rfl) (ea_cons (ev_op (opx_I (C := CShl) (g := fun i j => i * 2 ^ j.toNat)) mild_need (ev_int (i := 1)) (ev_var (i := 7) (x := level_) rfl)) (ea_cons (ev_var (i := 1) (x := prime_) rfl) ea_nil)))) (ev_int (i := 1)))) : EvT K (W0 E) [some (.im (toD a_)), some (.im (toD prime_)), some (.im (toD odd_)), some (.im (toD twos_)), some (.im (toD root_)), some (.im (toD rest_)), some (.im (toD helper_)), some (.im (toD level_))] _ _)
      refine blk_seq (blk_ifj (S := Int × Int) (fun (root_, rest_) => [some (.im (toD a_)), some (.im (toD prime_)), some (.im (toD odd_)), some (.im (toD twos_)), some (.im (toD root_)), some (.im (toD rest_)), some (.im (toD helper_)), some (.im (toD level_))]) (m_u_root_of_square_k3 prime_ helper_ (m_u_root_of_square_l2 prime_ (m_u_root_of_square_k4) r2)) L2 trivial ht_ ?_ ?_ ?_)
      · rintro ⟨root_, rest_⟩
        show Blk _ _ _ _ _ [some (.im (toD a_)), some (.im (toD prime_)), some (.im (toD odd_)), some (.im (toD twos_)), some (.im (toD root_)), some (.im (toD rest_)), some (.im (toD helper_)), some (.im (toD level_))] ((m_u_root_of_square_k3 prime_ helper_ (m_u_root_of_square_l2 prime_ (m_u_root_of_square_k4) r2)) (root_, rest_))
        unfold m_u_root_of_square_k3
        try refine Blk.nx ?_
        have hs_ := ((ev_op (opx_I (C := (fun _ j => 0 < j)) (g := fun i j => i % j)) mild_need (ev_op (opx_I (C := CMulX) (g := fun i j => i * j)) mild_need (ev_var (i := 6) (x := helper_) rfl) (ev_var (i := 6) (x := helper_) rfl)) (ev_var (i := 1) (x := prime_) rfl)) : EvX K (W0 E) [some (.im (toD a_)), some (.im (toD prime_)), some (.im (toD odd_)), some (.im (toD twos_)), some (.im (toD root_)), some (.im (toD rest_)), some (.im (toD helper_)), some (.im (toD level_))] _ _)
        refine blk_set (i := 6) L2 trivial hs_ fun helper_ => ?_
        show Blk _ _ _ _ _ [some (.im (toD a_)), some (.im (toD prime_)), some (.im (toD odd_)), some (.im (toD twos_)), some (.im (toD root_)), some (.im (toD rest_)), some (.im (toD helper_)), some (.im (toD level_))] _
        try refine Blk.nx ?_
        exact (hN2 (root_, rest_, helper_)).weak (.same (.same (.same (.same (.same (.same (.same (.drop .nil))))))))
      · intro hk3
        have hs_ := ((ev_op (opx_I (C := (fun _ j => 0 < j)) (g := fun i j => i % j)) mild_need (ev_op (opx_I (C := CMulX) (g := fun i j => i * j)) mild_need (ev_var (i := 4) (x := root_) rfl) (ev_var (i := 6) (x := helper_) rfl)) (ev_var (i := 1) (x := prime_) rfl)) : EvX K (W0 E) [some (.im (toD a_)), some (.im (toD prime_)), some (.im (toD odd_)), some (.im (toD twos_)), some (.im (toD root_)), some (.im (toD rest_)), some (.im (toD helper_)), some (.im (toD level_))] _ _)
        refine blk_seq (blk_set (i := 4) L2 trivial hs_ fun root_ => ?_)
        show Blk _ _ _ _ _ [some (.im (toD a_)), some (.im (toD prime_)), some (.im (toD odd_)), some (.im (toD twos_)), some (.im (toD root_)), some (.im (toD rest_)), some (.im (toD helper_)), some (.im (toD level_))] _
        try refine Blk.nx ?_
        have hs_ := ((ev_op (opx_I (C := (fun _ j => 0 < j)) (g := fun i j => i % j)) mild_need (ev_op (opx_I (C := CMulX) (g := fun i j => i * j)) mild_need (ev_op (opx_I (C := CMulX) (g := fun i j => i * j)) mild_need (ev_var (i := 5) (x := rest_) rfl) (ev_var (i := 6) (x := helper_) rfl)) (ev_var (i := 6) (x := helper_) rfl)) (ev_var (i := 1) (x := prime_) rfl)) : EvX K (W0 E) [some (.im (toD a_)), some (.im (toD prime_)), some (.im (toD odd_)), some (.im (toD twos_)), some (.im (toD root_)), some (.im (toD rest_)), some (.im (toD helper_)), some (.im (toD level_))] _ _)
        refine blk_set (i := 5) L2 trivial hs_ fun rest_ => ?_
        show Blk _ _ _ _ _ [some (.im (toD a_)), some (.im (toD prime_)), some (.im (toD odd_)), some (.im (toD twos_)), some (.im (toD root_)), some (.im (toD rest_)), some (.im (toD helper_)), some (.im (toD level_))] _
        try refine Blk.nx ?_
        exact (hk3 (root_, rest_)).weak (.same (.same (.same (.same (.same (.same (.same (.same .nil))))))))
      · intro hk3
        refine blk_nil ?_
        try refine Blk.nx ?_
        exact (hk3 (root_, rest_)).weak (.same (.same (.same (.same (.same (.same (.same (.same .nil))))))))
    · rintro ⟨root_, rest_, helper_⟩
      show Blk _ _ _ _ _ [some (.im (toD a_)), some (.im (toD prime_)), some (.im (toD odd_)), some (.im (toD twos_)), some (.im (toD root_)), some (.im (toD rest_)), some (.im (toD helper_)), none] ((m_u_root_of_square_k4) (root_, rest_, helper_))
      unfold m_u_root_of_square_k4
      try refine Blk.nx ?_
      have hr_ := ((ev_var (i := 4) (x := root_) rfl) : EvX K (W0 E) [some (.im (toD a_)), some (.im (toD prime_)), some (.im (toD odd_)), some (.im (toD twos_)), some (.im (toD root_)), some (.im (toD rest_)), some (.im (toD helper_)), none] _ _)
      exact blk_ret L trivial hr_
noncomputable def m_square_root (a_ : Int) (prime_ : Int) : Res (Option Int) :=
  ((((Res.ok a_)).bind fun a239 => (((Res.ok prime_)).bind fun a241 => (Res.ok ()).bind fun a242 => Res.ok (a241, a242)).bind fun a240 => Res.ok (a239, a240)).bind fun p238 => m_square_class p238.1 p238.2.1).bind fun (kind_ : Int) =>   (((Res.ok kind_)).bind fun (t244 : Int) => (((Res.ok (1 : Int))).bind fun (t243 : Int) => Res.ok (-t243)).bind fun (t245 : Int) => Res.ok (decide (t244 = t245))).bind fun b => cond b   ((Res.ok (none : (Option Int))))   ((((Res.ok kind_)).bind fun (t246 : Int) => ((Res.ok (0 : Int))).bind fun (t247 : Int) => Res.ok (decide (t246 = t247))).bind fun b => cond b   (((Res.ok (0 : Int))).bind fun (x : Int) => Res.ok (some x))   (((((Res.ok a_)).bind fun a249 => (((Res.ok prime_)).bind fun a251 => (Res.ok ()).bind fun a252 => Res.ok (a251, a252)).bind fun a250 => Res.ok (a249, a250)).bind fun p248 => m_u_root_of_square p248.1 p248.2.1).bind fun (root_ : Int) =>   ((((Res.ok root_)).bind fun a256 => ((((Res.ok prime_)).bind fun (t253 : Int) => ((Res.ok root_)).bind fun (t254 : Int) => Res.ok (t253 - t254)).bind fun a258 => (Res.ok ()).bind fun a259 => Res.ok (a258, a259)).bind fun a257 => Res.ok (a256, a257)).bind fun p255 => Res.ok (min p255.1 p255.2.1)).bind fun (x : Int) => Res.ok (some x)))
theorem ok_square_root {P : Program} {w : World} {K : PySem.W.Frag} {mg : Str → Option Value} {base : Heap} (T : Facts K mg) {fd : FuncData} (F : FnP K "square_root" "square_root" s_square_root (He.ga K "square_root") fd) :
    FnOk P w K mg base (L2.CX P w) 5 (He.ga K "square_root") fd ["a", "prime"] (spM K (fun (p : Int × Int × Unit) => m_square_root p.1 p.2.1)) := by
  obtain ⟨fd_u_root_of_square, F_u_root_of_square⟩ := T.d_u_root_of_square
  have G_u_root_of_square := ok_u_root_of_square (P := P) (w := w) (base := base) T F_u_root_of_square
  have b_u_root_of_square : Binds K fd_u_root_of_square ["a", "prime"] [] := F_u_root_of_square.bindsN fun _ _ _ _ _ _ us hl => match us, hl with | [_, _], _ => rfl
  obtain ⟨fd_square_class, F_square_class⟩ := T.d_square_class
  have G_square_class := ok_square_class (P := P) (w := w) (base := base) T F_square_class
  have b_square_class : Binds K fd_square_class ["a", "prime"] [] := F_square_class.bindsN fun _ _ _ _ _ _ us hl => match us, hl with | [_, _], _ => rfl
  refine fn_ok F sc_square_root (fun y => rfl) (fun cdv A outer s H E hr => ?_)
  refine ⟨_, (pss_cons (ps_set (i := 2) sc_square_root.nd rfl (Or.inl rfl) (pe_callS G_square_class (hr.mono (by decide)) rfl T.g_square_class F_square_class.kp b_square_class (fun σ => passAt (takes_of rfl rfl rfl rfl) σ) (pa_cons (pv 0) (pa_cons (pv 1) pa_nil)))) (pss_cons (ps_if (pt_cmpR op_eq (pv 2) (pe_un un_neg pe_int) (nomark _)) (pss_one (ps_ret pe_non)) pss_nil) (pss_cons (ps_if (pt_cmpR op_eq (pv 2) pe_int (nomark _)) (pss_one (ps_ret pe_int)) pss_nil) (pss_cons (ps_set (i := 3) sc_square_root.nd rfl (Or.inl rfl) (pe_callS G_u_root_of_square (hr.mono (by decide)) rfl T.g_u_root_of_square F_u_root_of_square.kp b_u_root_of_square (fun σ => passAt (takes_of rfl rfl rfl rfl) σ) (pa_cons (pv 0) (pa_cons (pv 1) pa_nil)))) (pss_one (ps_ret (pe_callB (call_min2 rfl) (by rfl) T.n_min (by decide +kernel) (pa_cons (pv 3) (pa_cons (pe_op op_sub (pv 1) (pv 3)) pa_nil))))))))), ?_⟩
  rintro ⟨a_, prime_, ⟨⟩⟩ F0 H0 Q KP L
  show Blk K F0 H0 KP _ [some (.im (toD a_)), some (.im (toD prime_)), none, none] (m_square_root a_ prime_)
  unfold m_square_root
  have hs_ := ((ev_call (f := (fun (p : Int × Int × Unit) => m_square_class p.1 p.2.1)) (ea_cons (ev_var (i := 0) (x := a_) rfl) (ea_cons (ev_var (i := 1) (x := prime_) rfl) ea_nil))) : EvX K (W0 E) [some (.im (toD a_)), some (.im (toD prime_)), none, none] _ _)
  refine blk_seq (blk_set (i := 2) L trivial hs_ fun kind_ => ?_)
  show Blk _ _ _ _ _ [some (.im (toD a_)), some (.im (toD prime_)), some (.im (toD kind_)), none] _
  try refine Blk.nx ?_
  have ht_ := ((et_test (ev_op opx_eqI mild_ok (ev_var (i := 2) (x := kind_) rfl) (ev_un (g := fun i => -i) (ev_int (i := 1))))) : EvT K (W0 E) [some (.im (toD a_)), some (.im (toD prime_)), some (.im (toD kind_)), none] _ _)
  refine blk_seq (blk_if2 L trivial ht_ ?_ ?_)
  · have hr_ := ((ev_noneO (α := Int)) : EvX K (W0 E) [some (.im (toD a_)), some (.im (toD prime_)), some (.im (toD kind_)), none] _ _)
    exact blk_ret L trivial hr_
  · refine blk_nil ?_
    try refine Blk.nx ?_
    have ht_ := ((et_test (ev_op opx_eqI mild_ok (ev_var (i := 2) (x := kind_) rfl) (ev_int (i := 0)))) : EvT K (W0 E) [some (.im (toD a_)), some (.im (toD prime_)), some (.im (toD kind_)), none] _ _)
    refine blk_seq (blk_if2 L trivial ht_ ?_ ?_)
    · have hr_ := ((ev_as (ev_int (i := 0)) some (fun _ => rfl) rfl) : EvX K (W0 E) [some (.im (toD a_)), some (.im (toD prime_)), some (.im (toD kind_)), none] _ _)
      exact blk_ret L trivial hr_
    · refine blk_nil ?_
      try refine Blk.nx ?_
      have hs_ := ((ev_call (f := (fun (p : Int × Int × Unit) => m_u_root_of_square p.1 p.2.1)) (ea_cons (ev_var (i := 0) (x := a_) rfl) (ea_cons (ev_var (i := 1) (x := prime_) rfl) ea_nil))) : EvX K (W0 E) [some (.im (toD a_)), some (.im (toD prime_)), some (.im (toD kind_)), none] _ _)
      refine blk_seq (blk_set (i := 3) L trivial hs_ fun root_ => ?_)
      show Blk _ _ _ _ _ [some (.im (toD a_)), some (.im (toD prime_)), some (.im (toD kind_)), some (.im (toD root_))] _
      try refine Blk.nx ?_
      have hr_ := ((ev_as (ev_cb cx_min (fun _ _ h => nomatch h) (ea_cons (ev_var (i := 3) (x := root_) rfl) (ea_cons (ev_op (opx_I0 (g := fun i j => i - j)) mild_ok (ev_var (i := 1) (x := prime_) rfl) (ev_var (i := 3) (x := root_) rfl)) ea_nil))) some (fun _ => rfl) rfl) : EvX K (W0 E) [some (.im (toD a_)), some (.im (toD prime_)), some (.im (toD kind_)), some (.im (toD root_))] _ _)
      exact blk_ret L trivial hr_
noncomputable def m_root_with_parity (a_ : Int) (prime_ : Int) (odd_ : Bool) : Res (Option Int) :=
  ((((Res.ok a_)).bind fun a261 => (((Res.ok prime_)).bind fun a263 => (Res.ok ()).bind fun a264 => Res.ok (a263, a264)).bind fun a262 => Res.ok (a261, a262)).bind fun p260 => m_square_root p260.1 p260.2.1).bind fun (root_ : (Option Int)) =>   ((((Res.ok root_)).bind fun (t265 : (Option Int)) => ((Res.ok ())).bind fun (t266 : Unit) => Res.ok (toD t265).isNon).bind fun b274 => cond b274 (Res.ok true) ((((((Res.ok root_)).bind fun (x : (Option Int)) => Res.ok (toD x)).bind D.asInt).bind fun (t267 : Int) => ((Res.ok (2 : Int))).bind fun (t268 : Int) => Res.ok (t267 % t268)).bind fun (t272 : Int) => ((((Res.ok odd_)).bind fun a270 => (Res.ok ()).bind fun a271 => Res.ok (a270, a271)).bind fun p269 => Res.ok (if p269.1 = true then (1 : Int) else 0)).bind fun (t273 : Int) => Res.ok (decide (t272 = t273)))).bind fun b => cond b   ((Res.ok root_))   ((((Res.ok root_)).bind fun (t275 : (Option Int)) => ((Res.ok (0 : Int))).bind fun (t276 : Int) => Res.need ((toD t275).okq = true ∧ (toD t276).okq = true) (Res.ok (!pyEq (toD t275) (toD t276)))).bind fun b279 => cond b279 ((((Res.ok prime_)).bind fun (t277 : Int) => ((((Res.ok root_)).bind fun (x : (Option Int)) => Res.ok (toD x)).bind D.asInt).bind fun (t278 : Int) => Res.ok (t277 - t278)).bind fun (x : Int) => Res.ok (some x)) ((Res.ok (none : (Option Int)))))
theorem ok_root_with_parity {P : Program} {w : World} {K : PySem.W.Frag} {mg : Str → Option Value} {base : Heap} (T : Facts K mg) {fd : FuncData} (F : FnP K "root_with_parity" "root_with_parity" s_root_with_parity (He.ga K "root_with_parity") fd) :
    FnOk P w K mg base (L2.CX P w) 6 (He.ga K "root_with_parity") fd ["a", "prime", "odd"] (spM K (fun (p : Int × Int × Bool × Unit) => m_root_with_parity p.1 p.2.1 p.2.2.1)) := by
  obtain ⟨fd_square_root, F_square_root⟩ := T.d_square_root
  have G_square_root := ok_square_root (P := P) (w := w) (base := base) T F_square_root
  have b_square_root : Binds K fd_square_root ["a", "prime"] [] := F_square_root.bindsN fun _ _ _ _ _ _ us hl => match us, hl with | [_, _], _ => rfl
  refine fn_ok F sc_root_with_parity (fun y => rfl) (fun cdv A outer s H E hr => ?_)
  refine ⟨_, (pss_cons (ps_set (i := 3) sc_root_with_parity.nd rfl (Or.inl rfl) (pe_callS G_square_root (hr.mono (by decide)) rfl T.g_square_root F_square_root.kp b_square_root (fun σ => passAt (takes_of rfl rfl rfl rfl) σ) (pa_cons (pv 0) (pa_cons (pv 1) pa_nil)))) (pss_cons (ps_if (PW.pt (pw_or (pt_cmpR op_isN (pv 3) pe_non (nomark _)) (pw_or1 (pt_cmpR op_eq (pe_op op_mod (pv 3) pe_int) (pe_callTy call_int1 (by rfl) T.n_int (by decide +kernel) (pa_cons (pv 2) pa_nil)) (nomark _))))) (pss_one (ps_ret (pv 3))) pss_nil) (pss_one (ps_ret (pe_ifExp (pt_cmpR (op_neD (Room.units hr)) (pv 3) pe_int (nomark _)) (pe_op op_sub (pv 1) (pv 3)) pe_non))))), ?_⟩
  rintro ⟨a_, prime_, odd_, ⟨⟩⟩ F0 H0 Q KP L
  show Blk K F0 H0 KP _ [some (.im (toD a_)), some (.im (toD prime_)), some (.im (toD odd_)), none] (m_root_with_parity a_ prime_ odd_)
  unfold m_root_with_parity
  have hs_ := ((ev_call (f := (fun (p : Int × Int × Unit) => m_square_root p.1 p.2.1)) (ea_cons (ev_var (i := 0) (x := a_) rfl) (ea_cons (ev_var (i := 1) (x := prime_) rfl) ea_nil))) : EvX K (W0 E) [some (.im (toD a_)), some (.im (toD prime_)), some (.im (toD odd_)), none] _ _)
  refine blk_seq (blk_set (i := 3) L trivial hs_ fun root_ => ?_)
  show Blk _ _ _ _ _ [some (.im (toD a_)), some (.im (toD prime_)), some (.im (toD odd_)), some (.im (toD root_))] _
  try refine Blk.nx ?_
  have ht_ := ((et_or (et_test (ev_op opx_isN mild_ok (ev_var (i := 3) (x := root_) rfl) ev_non)) (et_test (ev_op opx_eqI mild_ok (ev_opI (C := (fun _ j => 0 < j)) (g := fun i j => i % j) (fun x y _ h => by cases h; (show (0 : Int) < _; decide)) (ev_cast (f := D.asInt) asInt_ok asInt_x (ev_as (ev_var (i := 3) (x := root_) rfl) toD (fun _ => rfl) rfl)) (ev_int (i := 2))) (ev_cb cx_intB (fun _ _ h => nomatch h) (ea_cons (ev_var (i := 2) (x := odd_) rfl) ea_nil))))) : EvT K (W0 E) [some (.im (toD a_)), some (.im (toD prime_)), some (.im (toD odd_)), some (.im (toD root_))] _ _)
  refine blk_seq (blk_if2 L trivial ht_ ?_ ?_)
  · have hr_ := ((ev_var (i := 3) (x := root_) rfl) : EvX K (W0 E) [some (.im (toD a_)), some (.im (toD prime_)), some (.im (toD odd_)), some (.im (toD root_))] _ _)
    exact blk_ret L trivial hr_
  · refine blk_nil ?_
    try refine Blk.nx ?_
    have hr_ := ((ev_if (et_test (ev_op opx_neD mild_need (ev_var (i := 3) (x := root_) rfl) (ev_int (i := 0)))) (ev_as (ev_op (opx_I0 (g := fun i j => i - j)) mild_ok (ev_var (i := 1) (x := prime_) rfl) (ev_cast (f := D.asInt) asInt_ok asInt_x (ev_as (ev_var (i := 3) (x := root_) rfl) toD (fun _ => rfl) rfl))) some (fun _ => rfl) rfl) (ev_noneO (α := Int))) : EvX K (W0 E) [some (.im (toD a_)), some (.im (toD prime_)), some (.im (toD odd_)), some (.im (toD root_))] _ _)
    exact blk_ret L trivial hr_
noncomputable def m_Curve_init (prime_ : Int) (a_ : Int) (b_ : Int) : Res O_Curve :=
  ((((Res.ok prime_)).bind fun (t280 : Int) => ((Res.ok (5 : Int))).bind fun (t281 : Int) => Res.ok (decide (t280 < t281))).bind fun b286 => cond b286 (Res.ok true) ((((Res.ok prime_)).bind fun (t282 : Int) => ((Res.ok (2 : Int))).bind fun (t283 : Int) => Res.ok (t282 % t283)).bind fun (t284 : Int) => ((Res.ok (0 : Int))).bind fun (t285 : Int) => Res.ok (decide (t284 = t285)))).bind fun b => cond b   (Res.exc "OutOfRange")   (((Res.ok prime_)).bind fun (sf_prime : Int) =>   (((Res.ok a_)).bind fun (t287 : Int) => ((Res.ok prime_)).bind fun (t288 : Int) => Res.need (0 < t288) (Res.ok (t287 % t288))).bind fun (sf_a : Int) =>   (((Res.ok b_)).bind fun (t289 : Int) => ((Res.ok prime_)).bind fun (t290 : Int) => Res.need (0 < t290) (Res.ok (t289 % t290))).bind fun (sf_b : Int) =>   ((((((Res.ok (4 : Int))).bind fun (t293 : Int) => (((Res.ok sf_a)).bind fun (t291 : Int) => ((Res.ok (3 : Int))).bind fun (t292 : Int) => Res.need (CPowX t291 t292) (Res.ok (t291 ^ t292.toNat))).bind fun (t294 : Int) => Res.ok (t293 * t294)).bind fun (t299 : Int) => (((Res.ok (27 : Int))).bind fun (t297 : Int) => (((Res.ok sf_b)).bind fun (t295 : Int) => ((Res.ok (2 : Int))).bind fun (t296 : Int) => Res.need (CPowX t295 t296) (Res.ok (t295 ^ t296.toNat))).bind fun (t298 : Int) => Res.ok (t297 * t298)).bind fun (t300 : Int) => Res.ok (t299 + t300)).bind fun (t301 : Int) => ((Res.ok prime_)).bind fun (t302 : Int) => Res.need (0 < t302) (Res.ok (t301 % t302))).bind fun (t303 : Int) => ((Res.ok (0 : Int))).bind fun (t304 : Int) => Res.ok (decide (t303 = t304))).bind fun b => cond b   (Res.exc "Refused")   (Res.ok (O_Curve.mk sf_prime sf_a sf_b)))
theorem ok_Curve_init {P : Program} {w : World} {K : PySem.W.Frag} {mg : Str → Option Value} {base : Heap} (T : Facts K mg) {fd : FuncData} (F : FnP K "__init__" "Curve.__init__" s_Curve_init (He.ma K (He.ga K "Curve") "__init__") fd) :
    FnOk P w K mg base (L2.CX P w) 1 (He.ma K (He.ga K "Curve") "__init__") fd ["self", "prime", "a", "b"] (spI K "Curve" (fun (p : Int × Int × Int × Unit) => m_Curve_init p.1 p.2.1 p.2.2.1)) := by
  refine fn_okI (c := "Curve") F sc_Curve_init (fun y => rfl) (fun cdv A outer s H E hr => ?_)
  refine ⟨_, (pss_cons (ps_if (PW.pt (pw_or (pt_cmpR op_lt (pv 1) pe_int (nomark _)) (pw_or1 (pt_cmpR op_eq (pe_op op_mod (pv 1) pe_int) pe_int (nomark _))))) (pss_one (ps_raise rfl (takes_of rfl rfl rfl rfl) (pmk_own PySem.F.excBase_ValueError T.x_OutOfRange T.g_OutOfRange T.k_OutOfRange (raises_own T.b_OutOfRange T.t_OutOfRange) rfl))) pss_nil) (pss_cons (ps_fld (pv 0) (pv 1) rfl) (pss_cons (ps_fld (pv 0) (pe_op op_mod (pv 2) (pv 1)) rfl) (pss_cons (ps_fld (pv 0) (pe_op op_mod (pv 3) (pv 1)) rfl) (pss_one (ps_if (pt_cmpR op_eq (pe_op op_mod (pe_op op_add (pe_op op_mul pe_int (pe_op op_powX (pe_fld (pv 0) rfl) pe_int)) (pe_op op_mul pe_int (pe_op op_powX (pe_fld (pv 0) rfl) pe_int))) (pv 1)) pe_int (nomark _)) (pss_one (ps_raise rfl (takes_of rfl rfl rfl rfl) (pmk_own PySem.F.excBase_ValueError T.x_Refused T.g_Refused T.k_Refused (raises_own T.b_Refused T.t_Refused) rfl))) pss_nil)))))), ?_⟩
  rintro ⟨prime_, a_, b_, ⟨⟩⟩ p_ F0 H0 Q KP L
  show Blk K F0 H0 KP _ [some (.oi (some p_) "Curve" [] []), some (.im (toD prime_)), some (.im (toD a_)), some (.im (toD b_))] (m_Curve_init prime_ a_ b_)
  unfold m_Curve_init
  have ht_ := ((et_or (et_test (ev_op (opx_B0 (g := fun i j => decide (i < j))) mild_ok (ev_var (i := 1) (x := prime_) rfl) (ev_int (i := 5)))) (et_test (ev_op opx_eqI mild_ok (ev_opI (C := (fun _ j => 0 < j)) (g := fun i j => i % j) (fun x y _ h => by cases h; (show (0 : Int) < _; decide)) (ev_var (i := 1) (x := prime_) rfl) (ev_int (i := 2))) (ev_int (i := 0))))) : EvT K (W0 E) [some (.oi (some p_) "Curve" [] []), some (.im (toD prime_)), some (.im (toD a_)), some (.im (toD b_))] _ _)
  refine blk_seq (blk_if2 L trivial ht_ ?_ ?_)
  · exact blk_raise L trivial
  · refine blk_nil ?_
    try refine Blk.nx ?_
    have hs_ := ((ev_var (i := 1) (x := prime_) rfl) : EvX K (W0 E) [some (.oi (some p_) "Curve" [] []), some (.im (toD prime_)), some (.im (toD a_)), some (.im (toD b_))] _ _)
    refine blk_seq (blk_fldN (i := 0) L trivial hs_ rfl T.cl_Curve T.nf_Curve_prime (by decide +kernel) (by decide) fun sf_prime => ?_)
    show Blk _ _ _ _ _ [some (.oi (some p_) "Curve" ["prime"] [toD sf_prime]), some (.im (toD prime_)), some (.im (toD a_)), some (.im (toD b_))] _
    try refine Blk.nx ?_
    have hs_ := ((ev_op (opx_I (C := (fun _ j => 0 < j)) (g := fun i j => i % j)) mild_need (ev_var (i := 2) (x := a_) rfl) (ev_var (i := 1) (x := prime_) rfl)) : EvX K (W0 E) [some (.oi (some p_) "Curve" ["prime"] [toD sf_prime]), some (.im (toD prime_)), some (.im (toD a_)), some (.im (toD b_))] _ _)
    refine blk_seq (blk_fldN (i := 0) L trivial hs_ rfl T.cl_Curve T.nf_Curve_a (by decide +kernel) (by decide) fun sf_a => ?_)
    show Blk _ _ _ _ _ [some (.oi (some p_) "Curve" ["prime", "a"] [toD sf_prime, toD sf_a]), some (.im (toD prime_)), some (.im (toD a_)), some (.im (toD b_))] _
    try refine Blk.nx ?_
    have hs_ := ((ev_op (opx_I (C := (fun _ j => 0 < j)) (g := fun i j => i % j)) mild_need (ev_var (i := 3) (x := b_) rfl) (ev_var (i := 1) (x := prime_) rfl)) : EvX K (W0 E) [some (.oi (some p_) "Curve" ["prime", "a"] [toD sf_prime, toD sf_a]), some (.im (toD prime_)), some (.im (toD a_)), some (.im (toD b_))] _ _)
    refine blk_seq (blk_fldN (i := 0) L trivial hs_ rfl T.cl_Curve T.nf_Curve_b (by decide +kernel) (by decide) fun sf_b => ?_)
    show Blk _ _ _ _ _ [some (.oi (some p_) "Curve" ["prime", "a", "b"] [toD sf_prime, toD sf_a, toD sf_b]), some (.im (toD prime_)), some (.im (toD a_)), some (.im (toD b_))] _
    try refine Blk.nx ?_
    have ht_ := ((et_test (ev_op opx_eqI mild_ok (ev_op (opx_I (C := (fun _ j => 0 < j)) (g := fun i j => i % j)) mild_need (ev_op (opx_I0 (g := fun i j => i + j)) mild_ok (ev_opI (C := CMul) (g := fun i j => i * j) (fun x y h _ => by cases h; exact .inl (by decide)) (ev_int (i := 4)) (ev_op (opx_I (C := CPowX) (g := fun i j => i ^ j.toNat)) mild_need (ev_fldO (i := 0) (j := 1) (x := sf_a) rfl T.cl_Curve T.nf_Curve_a (by decide +kernel) rfl) (ev_int (i := 3)))) (ev_opI (C := CMul) (g := fun i j => i * j) (fun x y h _ => by cases h; exact .inl (by decide)) (ev_int (i := 27)) (ev_op (opx_I (C := CPowX) (g := fun i j => i ^ j.toNat)) mild_need (ev_fldO (i := 0) (j := 2) (x := sf_b) rfl T.cl_Curve T.nf_Curve_b (by decide +kernel) rfl) (ev_int (i := 2))))) (ev_var (i := 1) (x := prime_) rfl)) (ev_int (i := 0)))) : EvT K (W0 E) [some (.oi (some p_) "Curve" ["prime", "a", "b"] [toD sf_prime, toD sf_a, toD sf_b]), some (.im (toD prime_)), some (.im (toD a_)), some (.im (toD b_))] _ _)
    refine blk_if2 L trivial ht_ ?_ ?_
    · exact blk_raise L trivial
    · refine blk_nil ?_
      try refine Blk.nx ?_
      exact blk_finI (i := 0) L rfl rfl
noncomputable def m_Curve_u_right_side (self_ : O_Curve) (x_ : Int) : Res Int :=
  (((((Res.ok x_)).bind fun (t305 : Int) => ((Res.ok (3 : Int))).bind fun (t306 : Int) => Res.need (CPowX t305 t306) (Res.ok (t305 ^ t306.toNat))).bind fun (t310 : Int) => ((((Res.ok self_)).bind fun (t307 : O_Curve) => Res.ok t307.f_a).bind fun (t308 : Int) => ((Res.ok x_)).bind fun (t309 : Int) => Res.need (CMulX t308 t309) (Res.ok (t308 * t309))).bind fun (t311 : Int) => Res.ok (t310 + t311)).bind fun (t313 : Int) => (((Res.ok self_)).bind fun (t312 : O_Curve) => Res.ok t312.f_b).bind fun (t314 : Int) => Res.ok (t313 + t314)).bind fun (t316 : Int) => (((Res.ok self_)).bind fun (t315 : O_Curve) => Res.ok t315.f_prime).bind fun (t317 : Int) => Res.need (0 < t317) (Res.ok (t316 % t317))
theorem ok_Curve_u_right_side {P : Program} {w : World} {K : PySem.W.Frag} {mg : Str → Option Value} {base : Heap} (T : Facts K mg) {fd : FuncData} (F : FnP K "_right_side" "Curve._right_side" s_Curve_u_right_side (He.ma K (He.ga K "Curve") "_right_side") fd) :
    FnOk P w K mg base (L2.CX P w) 1 (He.ma K (He.ga K "Curve") "_right_side") fd ["self", "x"] (spM K (fun (p : O_Curve × Int × Unit) => m_Curve_u_right_side p.1 p.2.1)) := by
  refine fn_ok F sc_Curve_u_right_side (fun y => rfl) (fun cdv A outer s H E hr => ?_)
  refine ⟨_, (pss_one (ps_ret (pe_op op_mod (pe_op op_add (pe_op op_add (pe_op op_powX (pv 1) pe_int) (pe_op op_mulX (pe_fld (pv 0) rfl) (pv 1))) (pe_fld (pv 0) rfl)) (pe_fld (pv 0) rfl)))), ?_⟩
  rintro ⟨self_, x_, ⟨⟩⟩ F0 H0 Q KP L
  show Blk K F0 H0 KP _ [some (.im (toD self_)), some (.im (toD x_))] (m_Curve_u_right_side self_ x_)
  unfold m_Curve_u_right_side
  have hr_ := ((ev_op (opx_I (C := (fun _ j => 0 < j)) (g := fun i j => i % j)) mild_need (ev_op (opx_I0 (g := fun i j => i + j)) mild_ok (ev_op (opx_I0 (g := fun i j => i + j)) mild_ok (ev_op (opx_I (C := CPowX) (g := fun i j => i ^ j.toNat)) mild_need (ev_var (i := 1) (x := x_) rfl) (ev_int (i := 3))) (ev_op (opx_I (C := CMulX) (g := fun i j => i * j)) mild_need (ev_fld (g := fun (x : O_Curve) => x.f_a) (c := "Curve") (ks := ["prime", "a", "b"]) (j := 1) (ev_var (i := 0) (x := self_) rfl) T.cl_Curve T.nf_Curve_a (by decide +kernel) (fun _ => ⟨_, rfl, rfl⟩)) (ev_var (i := 1) (x := x_) rfl))) (ev_fld (g := fun (x : O_Curve) => x.f_b) (c := "Curve") (ks := ["prime", "a", "b"]) (j := 2) (ev_var (i := 0) (x := self_) rfl) T.cl_Curve T.nf_Curve_b (by decide +kernel) (fun _ => ⟨_, rfl, rfl⟩))) (ev_fld (g := fun (x : O_Curve) => x.f_prime) (c := "Curve") (ks := ["prime", "a", "b"]) (j := 0) (ev_var (i := 0) (x := self_) rfl) T.cl_Curve T.nf_Curve_prime (by decide +kernel) (fun _ => ⟨_, rfl, rfl⟩))) : EvX K (W0 E) [some (.im (toD self_)), some (.im (toD x_))] _ _)
  exact blk_ret L trivial hr_
noncomputable def m_Curve_has (self_ : O_Curve) (point_ : D) : Res Bool :=
  (((Res.ok point_)).bind fun (t318 : D) => ((Res.ok ())).bind fun (t319 : Unit) => Res.ok (toD t318).isNon).bind fun b => cond b   ((Res.ok true))   ((((((Res.ok point_)).bind fun a322 => ((((Res.ok self_)).bind fun (t320 : O_Curve) => Res.ok t320.f_prime).bind fun a324 => (Res.ok ()).bind fun a325 => Res.ok (a324, a325)).bind fun a323 => Res.ok (a322, a323)).bind fun p321 => m_is_residue_pair p321.1 p321.2.1).bind fun (t326 : Bool) => Res.ok (!t326)).bind fun b => cond b   ((Res.ok false))   (((((((((Res.ok point_)).bind D.asTu).bind fun (t327 : (Tu D)) => ((Res.ok (1 : Int))).bind fun (t328 : Int) => idx (t327).xs t328).bind D.asInt).bind fun (t329 : Int) => ((Res.ok (2 : Int))).bind fun (t330 : Int) => Res.need (CPowX t329 t330) (Res.ok (t329 ^ t330.toNat))).bind fun (t337 : Int) => (((Res.ok self_)).bind fun (o333 : O_Curve) => ((((((Res.ok point_)).bind D.asTu).bind fun (t331 : (Tu D)) => ((Res.ok (0 : Int))).bind fun (t332 : Int) => idx (t331).xs t332).bind D.asInt).bind fun a335 => (Res.ok ()).bind fun a336 => Res.ok (a335, a336)).bind fun p334 => m_Curve_u_right_side o333 p334.1).bind fun (t338 : Int) => Res.ok (t337 - t338)).bind fun (t340 : Int) => (((Res.ok self_)).bind fun (t339 : O_Curve) => Res.ok t339.f_prime).bind fun (t341 : Int) => Res.need (0 < t341) (Res.ok (t340 % t341))).bind fun (t342 : Int) => ((Res.ok (0 : Int))).bind fun (t343 : Int) => Res.ok (decide (t342 = t343))))
theorem ok_Curve_has {P : Program} {w : World} {K : PySem.W.Frag} {mg : Str → Option Value} {base : Heap} (T : Facts K mg) {fd : FuncData} (F : FnP K "has" "Curve.has" s_Curve_has (He.ma K (He.ga K "Curve") "has") fd) :
    FnOk P w K mg base (L2.CX P w) 4 (He.ma K (He.ga K "Curve") "has") fd ["self", "point"] (spM K (fun (p : O_Curve × D × Unit) => m_Curve_has p.1 p.2.1)) := by
  obtain ⟨fd_Curve_u_right_side, F_Curve_u_right_side⟩ := T.d_Curve_u_right_side
  have G_Curve_u_right_side := ok_Curve_u_right_side (P := P) (w := w) (base := base) T F_Curve_u_right_side
  have b_Curve_u_right_side : Binds K fd_Curve_u_right_side ["self", "x"] [] := F_Curve_u_right_side.bindsN fun _ _ _ _ _ _ us hl => match us, hl with | [_, _], _ => rfl
  obtain ⟨fd_is_residue_pair, F_is_residue_pair⟩ := T.d_is_residue_pair
  have G_is_residue_pair := ok_is_residue_pair (P := P) (w := w) (base := base) T F_is_residue_pair
  have b_is_residue_pair : Binds K fd_is_residue_pair ["value", "modulus"] [] := F_is_residue_pair.bindsN fun _ _ _ _ _ _ us hl => match us, hl with | [_, _], _ => rfl
  refine fn_ok F sc_Curve_has (fun y => rfl) (fun cdv A outer s H E hr => ?_)
  refine ⟨_, (pss_cons (ps_if (pt_cmpR op_isN (pv 1) pe_non (nomark _)) (pss_one (ps_ret pe_bl)) pss_nil) (pss_cons (ps_if (pt_not (pt_val (pe_callS G_is_residue_pair (hr.mono (by decide)) rfl T.g_is_residue_pair F_is_residue_pair.kp b_is_residue_pair (fun σ => passAt (takes_of rfl rfl rfl rfl) σ) (pa_cons (pv 1) (pa_cons (pe_fld (pv 0) rfl) pa_nil))))) (pss_one (ps_ret pe_bl)) pss_nil) (pss_one (ps_ret (pe_cmpR op_eq (pe_op op_mod (pe_op op_sub (pe_op op_powX (pe_ix (cr_ixT rfl) (pv 1) pe_int (fun _ _ => rfl)) pe_int) (pe_methQ (pv 0) T.cl_Curve T.mt_Curve_u_right_side G_Curve_u_right_side (hr.mono (by decide)) b_Curve_u_right_side (fun σ => passAt (takes_of rfl rfl rfl rfl) σ) (pa_cons (pe_ix (cr_ixT rfl) (pv 1) pe_int (fun _ _ => rfl)) pa_nil))) (pe_fld (pv 0) rfl)) pe_int (nomark _)))))), ?_⟩
  rintro ⟨self_, point_, ⟨⟩⟩ F0 H0 Q KP L
  show Blk K F0 H0 KP _ [some (.im (toD self_)), some (.im (toD point_))] (m_Curve_has self_ point_)
  unfold m_Curve_has
  have ht_ := ((et_test (ev_op opx_isN mild_ok (ev_var (i := 1) (x := point_) rfl) ev_non)) : EvT K (W0 E) [some (.im (toD self_)), some (.im (toD point_))] _ _)
  refine blk_seq (blk_if2 L trivial ht_ ?_ ?_)
  · have hr_ := ((ev_bl (b := true)) : EvX K (W0 E) [some (.im (toD self_)), some (.im (toD point_))] _ _)
    exact blk_ret L trivial hr_
  · refine blk_nil ?_
    try refine Blk.nx ?_
    have ht_ := ((et_not (et_B (ev_call (f := (fun (p : D × Int × Unit) => m_is_residue_pair p.1 p.2.1)) (ea_cons (ev_var (i := 1) (x := point_) rfl) (ea_cons (ev_fld (g := fun (x : O_Curve) => x.f_prime) (c := "Curve") (ks := ["prime", "a", "b"]) (j := 0) (ev_var (i := 0) (x := self_) rfl) T.cl_Curve T.nf_Curve_prime (by decide +kernel) (fun _ => ⟨_, rfl, rfl⟩)) ea_nil))))) : EvT K (W0 E) [some (.im (toD self_)), some (.im (toD point_))] _ _)
    refine blk_seq (blk_if2 L trivial ht_ ?_ ?_)
    · have hr_ := ((ev_bl (b := false)) : EvX K (W0 E) [some (.im (toD self_)), some (.im (toD point_))] _ _)
      exact blk_ret L trivial hr_
    · refine blk_nil ?_
      try refine Blk.nx ?_
      have hr_ := ((ev_op opx_eqI mild_ok (ev_op (opx_I (C := (fun _ j => 0 < j)) (g := fun i j => i % j)) mild_need (ev_op (opx_I0 (g := fun i j => i - j)) mild_ok (ev_op (opx_I (C := CPowX) (g := fun i j => i ^ j.toNat)) mild_need (ev_cast (f := D.asInt) asInt_ok asInt_x (ev_op opx_ixT (fun x y => idx_mild x.xs y) (ev_cast (f := D.asTu) asTu_ok asTu_x (ev_var (i := 1) (x := point_) rfl)) (ev_int (i := 1)))) (ev_int (i := 2))) (ev_meth (c := "Curve") (m := "_right_side") (ks := ["prime", "a", "b"]) (f := (fun (p : O_Curve × Int × Unit) => m_Curve_u_right_side p.1 p.2.1)) (ev_var (i := 0) (x := self_) rfl) (ea_cons (ev_cast (f := D.asInt) asInt_ok asInt_x (ev_op opx_ixT (fun x y => idx_mild x.xs y) (ev_cast (f := D.asTu) asTu_ok asTu_x (ev_var (i := 1) (x := point_) rfl)) (ev_int (i := 0)))) ea_nil) (by decide +kernel) (fun _ => ⟨_, rfl⟩))) (ev_fld (g := fun (x : O_Curve) => x.f_prime) (c := "Curve") (ks := ["prime", "a", "b"]) (j := 0) (ev_var (i := 0) (x := self_) rfl) T.cl_Curve T.nf_Curve_prime (by decide +kernel) (fun _ => ⟨_, rfl, rfl⟩))) (ev_int (i := 0))) : EvX K (W0 E) [some (.im (toD self_)), some (.im (toD point_))] _ _)
      exact blk_ret L trivial hr_
noncomputable def m_Curve_negate (self_ : O_Curve) (point_ : (Option (T2 Int Int))) : Res (Option (T2 Int Int)) :=
  (((Res.ok point_)).bind fun (t344 : (Option (T2 Int Int))) => ((Res.ok ())).bind fun (t345 : Unit) => Res.ok (toD t344).isNon).bind fun b => cond b   ((Res.ok (none : (Option (T2 Int Int)))))   (((((((Res.ok point_)).bind optGet).bind fun (t346 : (T2 Int Int)) => Res.ok t346.a).bind fun a353 => (((((((Res.ok point_)).bind optGet).bind fun (t347 : (T2 Int Int)) => Res.ok t347.b).bind fun (t348 : Int) => Res.ok (-t348)).bind fun (t350 : Int) => (((Res.ok self_)).bind fun (t349 : O_Curve) => Res.ok t349.f_prime).bind fun (t351 : Int) => Res.need (0 < t351) (Res.ok (t350 % t351))).bind fun a355 => (Res.ok ()).bind fun a356 => Res.ok (a355, a356)).bind fun a354 => Res.ok (a353, a354)).bind fun p352 => Res.ok (T2.mk p352.1 p352.2.1)).bind fun (x : (T2 Int Int)) => Res.ok (some x))
theorem ok_Curve_negate {P : Program} {w : World} {K : PySem.W.Frag} {mg : Str → Option Value} {base : Heap} (T : Facts K mg) {fd : FuncData} (F : FnP K "negate" "Curve.negate" s_Curve_negate (He.ma K (He.ga K "Curve") "negate") fd) :
    FnOk P w K mg base (L2.CX P w) 1 (He.ma K (He.ga K "Curve") "negate") fd ["self", "point"] (spM K (fun (p : O_Curve × (Option (T2 Int Int)) × Unit) => m_Curve_negate p.1 p.2.1)) := by
  refine fn_ok F sc_Curve_negate (fun y => rfl) (fun cdv A outer s H E hr => ?_)
  refine ⟨_, (pss_cons (ps_if (pt_cmpR op_isN (pv 1) pe_non (nomark _)) (pss_one (ps_ret pe_non)) pss_nil) (pss_one (ps_ret (pe_tup (pa_cons (pe_ix (cr_ixT rfl) (pv 1) pe_int (fun _ _ => rfl)) (pa_cons (pe_op op_mod (pe_un un_neg (pe_ix (cr_ixT rfl) (pv 1) pe_int (fun _ _ => rfl))) (pe_fld (pv 0) rfl)) pa_nil)))))), ?_⟩
  rintro ⟨self_, point_, ⟨⟩⟩ F0 H0 Q KP L
  show Blk K F0 H0 KP _ [some (.im (toD self_)), some (.im (toD point_))] (m_Curve_negate self_ point_)
  unfold m_Curve_negate
  have ht_ := ((et_test (ev_op opx_isN mild_ok (ev_var (i := 1) (x := point_) rfl) ev_non)) : EvT K (W0 E) [some (.im (toD self_)), some (.im (toD point_))] _ _)
  refine blk_seq (blk_if2 L trivial ht_ ?_ ?_)
  · have hr_ := ((ev_noneO (α := (T2 Int Int))) : EvX K (W0 E) [some (.im (toD self_)), some (.im (toD point_))] _ _)
    exact blk_ret L trivial hr_
  · refine blk_nil ?_
    try refine Blk.nx ?_
    have hr_ := ((ev_as (ev_tup (f := (fun y => T2.mk y.1 y.2.1)) (ea_cons (ev_ixTC (i := 0) (f := fun x => x.a) (ev_castG (f := optGet) optGet_ok optGet_x (ev_var (i := 1) (x := point_) rfl)) (fun x => ⟨_, rfl, rfl⟩)) (ea_cons (ev_op (opx_I (C := (fun _ j => 0 < j)) (g := fun i j => i % j)) mild_need (ev_un (g := fun i => -i) (ev_ixTC (i := 1) (f := fun x => x.b) (ev_castG (f := optGet) optGet_ok optGet_x (ev_var (i := 1) (x := point_) rfl)) (fun x => ⟨_, rfl, rfl⟩))) (ev_fld (g := fun (x : O_Curve) => x.f_prime) (c := "Curve") (ks := ["prime", "a", "b"]) (j := 0) (ev_var (i := 0) (x := self_) rfl) T.cl_Curve T.nf_Curve_prime (by decide +kernel) (fun _ => ⟨_, rfl, rfl⟩))) ea_nil)) (fun _ => rfl) (fun _ => by show 2 ≤ 100000; decide)) some (fun _ => rfl) rfl) : EvX K (W0 E) [some (.im (toD self_)), some (.im (toD point_))] _ _)
    exact blk_ret L trivial hr_
noncomputable def m_Curve_u_slope_k1 (self_ : O_Curve) : Int × Int → Res Int := fun (rise_, run_) =>   (((Res.ok rise_)).bind fun (t365 : Int) => ((((Res.ok run_)).bind fun a361 => ((((Res.ok self_)).bind fun (t359 : O_Curve) => Res.ok t359.f_prime).bind fun a363 => (Res.ok ()).bind fun a364 => Res.ok (a363, a364)).bind fun a362 => Res.ok (a361, a362)).bind fun p360 => m_inverse p360.1 p360.2.1).bind fun (t366 : Int) => Res.need (CMulX t365 t366) (Res.ok (t365 * t366))).bind fun (t368 : Int) => (((Res.ok self_)).bind fun (t367 : O_Curve) => Res.ok t367.f_prime).bind fun (t369 : Int) => Res.need (0 < t369) (Res.ok (t368 % t369))
noncomputable def m_Curve_u_slope (self_ : O_Curve) (first_ : (T2 Int Int)) (second_ : (T2 Int Int)) : Res Int :=
  (((Res.ok first_)).bind fun (t357 : (T2 Int Int)) => ((Res.ok second_)).bind fun (t358 : (T2 Int Int)) => Res.need ((toD t357).okq = true ∧ (toD t358).okq = true) (Res.ok (pyEq (toD t357) (toD t358)))).bind fun b => cond b   (((((Res.ok (3 : Int))).bind fun (t373 : Int) => ((((Res.ok first_)).bind fun (t370 : (T2 Int Int)) => Res.ok t370.a).bind fun (t371 : Int) => ((Res.ok (2 : Int))).bind fun (t372 : Int) => Res.need (CPowX t371 t372) (Res.ok (t371 ^ t372.toNat))).bind fun (t374 : Int) => Res.ok (t373 * t374)).bind fun (t376 : Int) => (((Res.ok self_)).bind fun (t375 : O_Curve) => Res.ok t375.f_a).bind fun (t377 : Int) => Res.ok (t376 + t377)).bind fun (p381 : Int) => (((Res.ok (2 : Int))).bind fun (t379 : Int) => (((Res.ok first_)).bind fun (t378 : (T2 Int Int)) => Res.ok t378.b).bind fun (t380 : Int) => Res.ok (t379 * t380)).bind fun (p382 : Int) =>   (fun (rise_ : Int) (run_ : Int) => (m_Curve_u_slope_k1 self_) (rise_, run_)) p381 p382)   (((((Res.ok second_)).bind fun (t383 : (T2 Int Int)) => Res.ok t383.b).bind fun (t385 : Int) => (((Res.ok first_)).bind fun (t384 : (T2 Int Int)) => Res.ok t384.b).bind fun (t386 : Int) => Res.ok (t385 - t386)).bind fun (p391 : Int) => ((((Res.ok second_)).bind fun (t387 : (T2 Int Int)) => Res.ok t387.a).bind fun (t389 : Int) => (((Res.ok first_)).bind fun (t388 : (T2 Int Int)) => Res.ok t388.a).bind fun (t390 : Int) => Res.ok (t389 - t390)).bind fun (p392 : Int) =>   (fun (rise_ : Int) (run_ : Int) => (m_Curve_u_slope_k1 self_) (rise_, run_)) p391 p392)
theorem ok_Curve_u_slope {P : Program} {w : World} {K : PySem.W.Frag} {mg : Str → Option Value} {base : Heap} (T : Facts K mg) {fd : FuncData} (F : FnP K "_slope" "Curve._slope" s_Curve_u_slope (He.ma K (He.ga K "Curve") "_slope") fd) :
    FnOk P w K mg base (L2.CX P w) 3 (He.ma K (He.ga K "Curve") "_slope") fd ["self", "first", "second"] (spM K (fun (p : O_Curve × (T2 Int Int) × (T2 Int Int) × Unit) => m_Curve_u_slope p.1 p.2.1 p.2.2.1)) := by
  obtain ⟨fd_inverse, F_inverse⟩ := T.d_inverse
  have G_inverse := ok_inverse (P := P) (w := w) (base := base) T F_inverse
  have b_inverse : Binds K fd_inverse ["a", "modulus"] [] := F_inverse.bindsN fun _ _ _ _ _ _ us hl => match us, hl with | [_, _], _ => rfl
  refine fn_ok F sc_Curve_u_slope (fun y => rfl) (fun cdv A outer s H E hr => ?_)
  refine ⟨_, (pss_cons (ps_if (pt_cmpR (op_eqD (Room.units hr)) (pv 1) (pv 2) (nomark _)) (pss_one (ps_par (i := 3) (j := 4) (by rfl) sc_Curve_u_slope.nd rfl rfl (by decide) rfl rfl (pa_cons (pe_op op_add (pe_op op_mul pe_int (pe_op op_powX (pe_ix (cr_ixT rfl) (pv 1) pe_int (fun _ _ => rfl)) pe_int)) (pe_fld (pv 0) rfl)) (pa_cons (pe_op op_mul pe_int (pe_ix (cr_ixT rfl) (pv 1) pe_int (fun _ _ => rfl))) pa_nil)) (by rfl))) (pss_one (ps_par (i := 3) (j := 4) (by rfl) sc_Curve_u_slope.nd rfl rfl (by decide) rfl rfl (pa_cons (pe_op op_sub (pe_ix (cr_ixT rfl) (pv 2) pe_int (fun _ _ => rfl)) (pe_ix (cr_ixT rfl) (pv 1) pe_int (fun _ _ => rfl))) (pa_cons (pe_op op_sub (pe_ix (cr_ixT rfl) (pv 2) pe_int (fun _ _ => rfl)) (pe_ix (cr_ixT rfl) (pv 1) pe_int (fun _ _ => rfl))) pa_nil)) (by rfl)))) (pss_one (ps_ret (pe_op op_mod (pe_op op_mulX (pv 3) (pe_callS G_inverse (hr.mono (by decide)) rfl T.g_inverse F_inverse.kp b_inverse (fun σ => passAt (takes_of rfl rfl rfl rfl) σ) (pa_cons (pv 4) (pa_cons (pe_fld (pv 0) rfl) pa_nil)))) (pe_fld (pv 0) rfl))))), ?_⟩
  rintro ⟨self_, first_, second_, ⟨⟩⟩ F0 H0 Q KP L
  show Blk K F0 H0 KP _ [some (.im (toD self_)), some (.im (toD first_)), some (.im (toD second_)), none, none] (m_Curve_u_slope self_ first_ second_)
  unfold m_Curve_u_slope
  have ht_ := ((et_test (ev_op opx_eqD mild_need (ev_var (i := 1) (x := first_) rfl) (ev_var (i := 2) (x := second_) rfl))) : EvT K (W0 E) [some (.im (toD self_)), some (.im (toD first_)), some (.im (toD second_)), none, none] _ _)
  refine blk_seq (blk_ifj (S := Int × Int) (fun (rise_, run_) => [some (.im (toD self_)), some (.im (toD first_)), some (.im (toD second_)), some (.im (toD rise_)), some (.im (toD run_))]) (m_Curve_u_slope_k1 self_) L trivial ht_ ?_ ?_ ?_)
  · rintro ⟨rise_, run_⟩
    show Blk _ _ _ _ _ [some (.im (toD self_)), some (.im (toD first_)), some (.im (toD second_)), some (.im (toD rise_)), some (.im (toD run_))] ((m_Curve_u_slope_k1 self_) (rise_, run_))
    unfold m_Curve_u_slope_k1
    try refine Blk.nx ?_
    have hr_ := ((ev_op (opx_I (C := (fun _ j => 0 < j)) (g := fun i j => i % j)) mild_need (ev_op (opx_I (C := CMulX) (g := fun i j => i * j)) mild_need (ev_var (i := 3) (x := rise_) rfl) (ev_call (f := (fun (p : Int × Int × Unit) => m_inverse p.1 p.2.1)) (ea_cons (ev_var (i := 4) (x := run_) rfl) (ea_cons (ev_fld (g := fun (x : O_Curve) => x.f_prime) (c := "Curve") (ks := ["prime", "a", "b"]) (j := 0) (ev_var (i := 0) (x := self_) rfl) T.cl_Curve T.nf_Curve_prime (by decide +kernel) (fun _ => ⟨_, rfl, rfl⟩)) ea_nil)))) (ev_fld (g := fun (x : O_Curve) => x.f_prime) (c := "Curve") (ks := ["prime", "a", "b"]) (j := 0) (ev_var (i := 0) (x := self_) rfl) T.cl_Curve T.nf_Curve_prime (by decide +kernel) (fun _ => ⟨_, rfl, rfl⟩))) : EvX K (W0 E) [some (.im (toD self_)), some (.im (toD first_)), some (.im (toD second_)), some (.im (toD rise_)), some (.im (toD run_))] _ _)
    exact blk_ret L trivial hr_
  · intro hk1
    have ha_ := ((ev_op (opx_I0 (g := fun i j => i + j)) mild_ok (ev_opI (C := CMul) (g := fun i j => i * j) (fun x y h _ => by cases h; exact .inl (by decide)) (ev_int (i := 3)) (ev_op (opx_I (C := CPowX) (g := fun i j => i ^ j.toNat)) mild_need (ev_ixTC (i := 0) (f := fun x => x.a) (ev_var (i := 1) (x := first_) rfl) (fun x => ⟨_, rfl, rfl⟩)) (ev_int (i := 2)))) (ev_fld (g := fun (x : O_Curve) => x.f_a) (c := "Curve") (ks := ["prime", "a", "b"]) (j := 1) (ev_var (i := 0) (x := self_) rfl) T.cl_Curve T.nf_Curve_a (by decide +kernel) (fun _ => ⟨_, rfl, rfl⟩))) : EvX K (W0 E) [some (.im (toD self_)), some (.im (toD first_)), some (.im (toD second_)), none, none] _ _)
    have hb_ := ((ev_opI (C := CMul) (g := fun i j => i * j) (fun x y h _ => by cases h; exact .inl (by decide)) (ev_int (i := 2)) (ev_ixTC (i := 1) (f := fun x => x.b) (ev_var (i := 1) (x := first_) rfl) (fun x => ⟨_, rfl, rfl⟩))) : EvX K (W0 E) [some (.im (toD self_)), some (.im (toD first_)), some (.im (toD second_)), none, none] _ _)
    refine blk_par (i := 3) (j := 4) L trivial ha_ hb_ fun rise_ run_ => ?_
    show Blk _ _ _ _ _ [some (.im (toD self_)), some (.im (toD first_)), some (.im (toD second_)), some (.im (toD rise_)), some (.im (toD run_))] _
    try refine Blk.nx ?_
    exact (hk1 (rise_, run_)).weak (.same (.same (.same (.same (.same .nil)))))
  · intro hk1
    have ha_ := ((ev_op (opx_I0 (g := fun i j => i - j)) mild_ok (ev_ixTC (i := 1) (f := fun x => x.b) (ev_var (i := 2) (x := second_) rfl) (fun x => ⟨_, rfl, rfl⟩)) (ev_ixTC (i := 1) (f := fun x => x.b) (ev_var (i := 1) (x := first_) rfl) (fun x => ⟨_, rfl, rfl⟩))) : EvX K (W0 E) [some (.im (toD self_)), some (.im (toD first_)), some (.im (toD second_)), none, none] _ _)
    have hb_ := ((ev_op (opx_I0 (g := fun i j => i - j)) mild_ok (ev_ixTC (i := 0) (f := fun x => x.a) (ev_var (i := 2) (x := second_) rfl) (fun x => ⟨_, rfl, rfl⟩)) (ev_ixTC (i := 0) (f := fun x => x.a) (ev_var (i := 1) (x := first_) rfl) (fun x => ⟨_, rfl, rfl⟩))) : EvX K (W0 E) [some (.im (toD self_)), some (.im (toD first_)), some (.im (toD second_)), none, none] _ _)
    refine blk_par (i := 3) (j := 4) L trivial ha_ hb_ fun rise_ run_ => ?_
    show Blk _ _ _ _ _ [some (.im (toD self_)), some (.im (toD first_)), some (.im (toD second_)), some (.im (toD rise_)), some (.im (toD run_))] _
    try refine Blk.nx ?_
    exact (hk1 (rise_, run_)).weak (.same (.same (.same (.same (.same .nil)))))
noncomputable def m_EdwardsCurve_negate (self_ : O_EdwardsCurve) (point_ : (T2 Int Int)) : Res (T2 Int Int) :=
  ((((((Res.ok point_)).bind fun (t393 : (T2 Int Int)) => Res.ok t393.a).bind fun (t394 : Int) => Res.ok (-t394)).bind fun (t396 : Int) => (((Res.ok self_)).bind fun (t395 : O_EdwardsCurve) => Res.ok t395.f_prime).bind fun (t397 : Int) => Res.need (0 < t397) (Res.ok (t396 % t397))).bind fun a400 => ((((Res.ok point_)).bind fun (t398 : (T2 Int Int)) => Res.ok t398.b).bind fun a402 => (Res.ok ()).bind fun a403 => Res.ok (a402, a403)).bind fun a401 => Res.ok (a400, a401)).bind fun p399 => Res.ok (T2.mk p399.1 p399.2.1)
theorem ok_EdwardsCurve_negate {P : Program} {w : World} {K : PySem.W.Frag} {mg : Str → Option Value} {base : Heap} (T : Facts K mg) {fd : FuncData} (F : FnP K "negate" "EdwardsCurve.negate" s_EdwardsCurve_negate (He.ma K (He.ga K "EdwardsCurve") "negate") fd) :
    FnOk P w K mg base (L2.CX P w) 1 (He.ma K (He.ga K "EdwardsCurve") "negate") fd ["self", "point"] (spM K (fun (p : O_EdwardsCurve × (T2 Int Int) × Unit) => m_EdwardsCurve_negate p.1 p.2.1)) := by
  refine fn_ok F sc_EdwardsCurve_negate (fun y => rfl) (fun cdv A outer s H E hr => ?_)
  refine ⟨_, (pss_one (ps_ret (pe_tup (pa_cons (pe_op op_mod (pe_un un_neg (pe_ix (cr_ixT rfl) (pv 1) pe_int (fun _ _ => rfl))) (pe_fld (pv 0) rfl)) (pa_cons (pe_ix (cr_ixT rfl) (pv 1) pe_int (fun _ _ => rfl)) pa_nil))))), ?_⟩
  rintro ⟨self_, point_, ⟨⟩⟩ F0 H0 Q KP L
  show Blk K F0 H0 KP _ [some (.im (toD self_)), some (.im (toD point_))] (m_EdwardsCurve_negate self_ point_)
  unfold m_EdwardsCurve_negate
  have hr_ := ((ev_tup (f := (fun y => T2.mk y.1 y.2.1)) (ea_cons (ev_op (opx_I (C := (fun _ j => 0 < j)) (g := fun i j => i % j)) mild_need (ev_un (g := fun i => -i) (ev_ixTC (i := 0) (f := fun x => x.a) (ev_var (i := 1) (x := point_) rfl) (fun x => ⟨_, rfl, rfl⟩))) (ev_fld (g := fun (x : O_EdwardsCurve) => x.f_prime) (c := "EdwardsCurve") (ks := ["prime", "a", "d"]) (j := 0) (ev_var (i := 0) (x := self_) rfl) T.cl_EdwardsCurve T.nf_EdwardsCurve_prime (by decide +kernel) (fun _ => ⟨_, rfl, rfl⟩))) (ea_cons (ev_ixTC (i := 1) (f := fun x => x.b) (ev_var (i := 1) (x := point_) rfl) (fun x => ⟨_, rfl, rfl⟩)) ea_nil)) (fun _ => rfl) (fun _ => by show 2 ≤ 100000; decide)) : EvX K (W0 E) [some (.im (toD self_)), some (.im (toD point_))] _ _)
  exact blk_ret L trivial hr_
noncomputable def m_Curve_add (self_ : O_Curve) (first_ : (Option (T2 Int Int))) (second_ : (Option (T2 Int Int))) : Res (Option (T2 Int Int)) :=
  (((Res.ok first_)).bind fun (t404 : (Option (T2 Int Int))) => ((Res.ok ())).bind fun (t405 : Unit) => Res.ok (toD t404).isNon).bind fun b => cond b   ((Res.ok second_))   ((((Res.ok second_)).bind fun (t406 : (Option (T2 Int Int))) => ((Res.ok ())).bind fun (t407 : Unit) => Res.ok (toD t406).isNon).bind fun b => cond b   ((Res.ok first_))   ((((Res.ok second_)).bind fun (t412 : (Option (T2 Int Int))) => (((Res.ok self_)).bind fun (o408 : O_Curve) => (((Res.ok first_)).bind fun a410 => (Res.ok ()).bind fun a411 => Res.ok (a410, a411)).bind fun p409 => m_Curve_negate o408 p409.1).bind fun (t413 : (Option (T2 Int Int))) => Res.need ((toD t412).okq = true ∧ (toD t413).okq = true) (Res.ok (pyEq (toD t412) (toD t413)))).bind fun b => cond b   ((Res.ok (none : (Option (T2 Int Int)))))   ((((Res.ok self_)).bind fun (o414 : O_Curve) => ((((Res.ok first_)).bind optGet).bind fun a416 => ((((Res.ok second_)).bind optGet).bind fun a418 => (Res.ok ()).bind fun a419 => Res.ok (a418, a419)).bind fun a417 => Res.ok (a416, a417)).bind fun p415 => m_Curve_u_slope o414 p415.1 p415.2.1).bind fun (slope_ : Int) =>   ((((((Res.ok slope_)).bind fun (t420 : Int) => ((Res.ok (2 : Int))).bind fun (t421 : Int) => Res.need (CPowX t420 t421) (Res.ok (t420 ^ t421.toNat))).bind fun (t423 : Int) => ((((Res.ok first_)).bind optGet).bind fun (t422 : (T2 Int Int)) => Res.ok t422.a).bind fun (t424 : Int) => Res.ok (t423 - t424)).bind fun (t426 : Int) => ((((Res.ok second_)).bind optGet).bind fun (t425 : (T2 Int Int)) => Res.ok t425.a).bind fun (t427 : Int) => Res.ok (t426 - t427)).bind fun (t429 : Int) => (((Res.ok self_)).bind fun (t428 : O_Curve) => Res.ok t428.f_prime).bind fun (t430 : Int) => Res.need (0 < t430) (Res.ok (t429 % t430))).bind fun (x_ : Int) =>   ((((Res.ok x_)).bind fun a443 => ((((((Res.ok slope_)).bind fun (t434 : Int) => (((((Res.ok first_)).bind optGet).bind fun (t431 : (T2 Int Int)) => Res.ok t431.a).bind fun (t432 : Int) => ((Res.ok x_)).bind fun (t433 : Int) => Res.ok (t432 - t433)).bind fun (t435 : Int) => Res.need (CMulX t434 t435) (Res.ok (t434 * t435))).bind fun (t437 : Int) => ((((Res.ok first_)).bind optGet).bind fun (t436 : (T2 Int Int)) => Res.ok t436.b).bind fun (t438 : Int) => Res.ok (t437 - t438)).bind fun (t440 : Int) => (((Res.ok self_)).bind fun (t439 : O_Curve) => Res.ok t439.f_prime).bind fun (t441 : Int) => Res.need (0 < t441) (Res.ok (t440 % t441))).bind fun a445 => (Res.ok ()).bind fun a446 => Res.ok (a445, a446)).bind fun a444 => Res.ok (a443, a444)).bind fun p442 => Res.ok (T2.mk p442.1 p442.2.1)).bind fun (x : (T2 Int Int)) => Res.ok (some x))))
theorem ok_Curve_add {P : Program} {w : World} {K : PySem.W.Frag} {mg : Str → Option Value} {base : Heap} (T : Facts K mg) {fd : FuncData} (F : FnP K "add" "Curve.add" s_Curve_add (He.ma K (He.ga K "Curve") "add") fd) :
    FnOk P w K mg base (L2.CX P w) 4 (He.ma K (He.ga K "Curve") "add") fd ["self", "first", "second"] (spM K (fun (p : O_Curve × (Option (T2 Int Int)) × (Option (T2 Int Int)) × Unit) => m_Curve_add p.1 p.2.1 p.2.2.1)) := by
  obtain ⟨fd_Curve_u_slope, F_Curve_u_slope⟩ := T.d_Curve_u_slope
  have G_Curve_u_slope := ok_Curve_u_slope (P := P) (w := w) (base := base) T F_Curve_u_slope
  have b_Curve_u_slope : Binds K fd_Curve_u_slope ["self", "first", "second"] [] := F_Curve_u_slope.bindsN fun _ _ _ _ _ _ us hl => match us, hl with | [_, _, _], _ => rfl
  obtain ⟨fd_Curve_negate, F_Curve_negate⟩ := T.d_Curve_negate
  have G_Curve_negate := ok_Curve_negate (P := P) (w := w) (base := base) T F_Curve_negate
  have b_Curve_negate : Binds K fd_Curve_negate ["self", "point"] [] := F_Curve_negate.bindsN fun _ _ _ _ _ _ us hl => match us, hl with | [_, _], _ => rfl
  refine fn_ok F sc_Curve_add (fun y => rfl) (fun cdv A outer s H E hr => ?_)
  refine ⟨_, (pss_cons (ps_if (pt_cmpR op_isN (pv 1) pe_non (nomark _)) (pss_one (ps_ret (pv 2))) pss_nil) (pss_cons (ps_if (pt_cmpR op_isN (pv 2) pe_non (nomark _)) (pss_one (ps_ret (pv 1))) pss_nil) (pss_cons (ps_if (pt_cmpR (op_eqD (Room.units hr)) (pv 2) (pe_methQ (pv 0) T.cl_Curve T.mt_Curve_negate G_Curve_negate (hr.mono (by decide)) b_Curve_negate (fun σ => passAt (takes_of rfl rfl rfl rfl) σ) (pa_cons (pv 1) pa_nil)) (nomark _)) (pss_one (ps_ret pe_non)) pss_nil) (pss_cons (ps_set (i := 3) sc_Curve_add.nd rfl (Or.inl rfl) (pe_methQ (pv 0) T.cl_Curve T.mt_Curve_u_slope G_Curve_u_slope (hr.mono (by decide)) b_Curve_u_slope (fun σ => passAt (takes_of rfl rfl rfl rfl) σ) (pa_cons (pv 1) (pa_cons (pv 2) pa_nil)))) (pss_cons (ps_set (i := 4) sc_Curve_add.nd rfl (Or.inl rfl) (pe_op op_mod (pe_op op_sub (pe_op op_sub (pe_op op_powX (pv 3) pe_int) (pe_ix (cr_ixT rfl) (pv 1) pe_int (fun _ _ => rfl))) (pe_ix (cr_ixT rfl) (pv 2) pe_int (fun _ _ => rfl))) (pe_fld (pv 0) rfl))) (pss_one (ps_ret (pe_tup (pa_cons (pv 4) (pa_cons (pe_op op_mod (pe_op op_sub (pe_op op_mulX (pv 3) (pe_op op_sub (pe_ix (cr_ixT rfl) (pv 1) pe_int (fun _ _ => rfl)) (pv 4))) (pe_ix (cr_ixT rfl) (pv 1) pe_int (fun _ _ => rfl))) (pe_fld (pv 0) rfl)) pa_nil)))))))))), ?_⟩
  rintro ⟨self_, first_, second_, ⟨⟩⟩ F0 H0 Q KP L
  show Blk K F0 H0 KP _ [some (.im (toD self_)), some (.im (toD first_)), some (.im (toD second_)), none, none] (m_Curve_add self_ first_ second_)
  unfold m_Curve_add
  have ht_ := ((et_test (ev_op opx_isN mild_ok (ev_var (i := 1) (x := first_) rfl) ev_non)) : EvT K (W0 E) [some (.im (toD self_)), some (.im (toD first_)), some (.im (toD second_)), none, none] _ _)
  refine blk_seq (blk_if2 L trivial ht_ ?_ ?_)
  · have hr_ := ((ev_var (i := 2) (x := second_) rfl) : EvX K (W0 E) [some (.im (toD self_)), some (.im (toD first_)), some (.im (toD second_)), none, none] _ _)
    exact blk_ret L trivial hr_
  · refine blk_nil ?_
    try refine Blk.nx ?_
    have ht_ := ((et_test (ev_op opx_isN mild_ok (ev_var (i := 2) (x := second_) rfl) ev_non)) : EvT K (W0 E) [some (.im (toD self_)), some (.im (toD first_)), some (.im (toD second_)), none, none] _ _)
    refine blk_seq (blk_if2 L trivial ht_ ?_ ?_)
    · have hr_ := ((ev_var (i := 1) (x := first_) rfl) : EvX K (W0 E) [some (.im (toD self_)), some (.im (toD first_)), some (.im (toD second_)), none, none] _ _)
      exact blk_ret L trivial hr_
    · refine blk_nil ?_
      try refine Blk.nx ?_
      have ht_ := ((et_test (ev_op opx_eqD mild_need (ev_var (i := 2) (x := second_) rfl) (ev_meth (c := "Curve") (m := "negate") (ks := ["prime", "a", "b"]) (f := (fun (p : O_Curve × (Option (T2 Int Int)) × Unit) => m_Curve_negate p.1 p.2.1)) (ev_var (i := 0) (x := self_) rfl) (ea_cons (ev_var (i := 1) (x := first_) rfl) ea_nil) (by decide +kernel) (fun _ => ⟨_, rfl⟩)))) : EvT K (W0 E) [some (.im (toD self_)), some (.im (toD first_)), some (.im (toD second_)), none, none] _ _)
      refine blk_seq (blk_if2 L trivial ht_ ?_ ?_)
      · have hr_ := ((ev_noneO (α := (T2 Int Int))) : EvX K (W0 E) [some (.im (toD self_)), some (.im (toD first_)), some (.im (toD second_)), none, none] _ _)
        exact blk_ret L trivial hr_
      · refine blk_nil ?_
        try refine Blk.nx ?_
        have hs_ := ((ev_meth (c := "Curve") (m := "_slope") (ks := ["prime", "a", "b"]) (f := (fun (p : O_Curve × (T2 Int Int) × (T2 Int Int) × Unit) => m_Curve_u_slope p.1 p.2.1 p.2.2.1)) (ev_var (i := 0) (x := self_) rfl) (ea_cons (ev_castG (f := optGet) optGet_ok optGet_x (ev_var (i := 1) (x := first_) rfl)) (ea_cons (ev_castG (f := optGet) optGet_ok optGet_x (ev_var (i := 2) (x := second_) rfl)) ea_nil)) (by decide +kernel) (fun _ => ⟨_, rfl⟩)) : EvX K (W0 E) [some (.im (toD self_)), some (.im (toD first_)), some (.im (toD second_)), none, none] _ _)
        refine blk_seq (blk_set (i := 3) L trivial hs_ fun slope_ => ?_)
        show Blk _ _ _ _ _ [some (.im (toD self_)), some (.im (toD first_)), some (.im (toD second_)), some (.im (toD slope_)), none] _
        try refine Blk.nx ?_
        have hs_ := ((ev_op (opx_I (C := (fun _ j => 0 < j)) (g := fun i j => i % j)) mild_need (ev_op (opx_I0 (g := fun i j => i - j)) mild_ok (ev_op (opx_I0 (g := fun i j => i - j)) mild_ok (ev_op (opx_I (C := CPowX) (g := fun i j => i ^ j.toNat)) mild_need (ev_var (i := 3) (x := slope_) rfl) (ev_int (i := 2))) (ev_ixTC (i := 0) (f := fun x => x.a) (ev_castG (f := optGet) optGet_ok optGet_x (ev_var (i := 1) (x := first_) rfl)) (fun x => ⟨_, rfl, rfl⟩))) (ev_ixTC (i := 0) (f := fun x => x.a) (ev_castG (f := optGet) optGet_ok optGet_x (ev_var (i := 2) (x := second_) rfl)) (fun x => ⟨_, rfl, rfl⟩))) (ev_fld (g := fun (x : O_Curve) => x.f_prime) (c := "Curve") (ks := ["prime", "a", "b"]) (j := 0) (ev_var (i := 0) (x := self_) rfl) T.cl_Curve T.nf_Curve_prime (by decide +kernel) (fun _ => ⟨_, rfl, rfl⟩))) : EvX K (W0 E) [some (.im (toD self_)), some (.im (toD first_)), some (.im (toD second_)), some (.im (toD slope_)), none] _ _)
        refine blk_seq (blk_set (i := 4) L trivial hs_ fun x_ => ?_)
        show Blk _ _ _ _ _ [some (.im (toD self_)), some (.im (toD first_)), some (.im (toD second_)), some (.im (toD slope_)), some (.im (toD x_))] _
        try refine Blk.nx ?_
        have hr_ := ((ev_as (ev_tup (f := (fun y => T2.mk y.1 y.2.1)) (ea_cons (ev_var (i := 4) (x := x_) rfl) (ea_cons (ev_op (opx_I (C := (fun _ j => 0 < j)) (g := fun i j => i % j)) mild_need (ev_op (opx_I0 (g := fun i j => i - j)) mild_ok (ev_op (opx_I (C := CMulX) (g := fun i j => i * j)) mild_need (ev_var (i := 3) (x := slope_) rfl) (ev_op (opx_I0 (g := fun i j => i - j)) mild_ok (ev_ixTC (i := 0) (f := fun x => x.a) (ev_castG (f := optGet) optGet_ok optGet_x (ev_var (i := 1) (x := first_) rfl)) (fun x => ⟨_, rfl, rfl⟩)) (ev_var (i := 4) (x := x_) rfl))) (ev_ixTC (i := 1) (f := fun x => x.b) (ev_castG (f := optGet) optGet_ok optGet_x (ev_var (i := 1) (x := first_) rfl)) (fun x => ⟨_, rfl, rfl⟩))) (ev_fld (g := fun (x : O_Curve) => x.f_prime) (c := "Curve") (ks := ["prime", "a", "b"]) (j := 0) (ev_var (i := 0) (x := self_) rfl) T.cl_Curve T.nf_Curve_prime (by decide +kernel) (fun _ => ⟨_, rfl, rfl⟩))) ea_nil)) (fun _ => rfl) (fun _ => by show 2 ≤ 100000; decide)) some (fun _ => rfl) rfl) : EvX K (W0 E) [some (.im (toD self_)), some (.im (toD first_)), some (.im (toD second_)), some (.im (toD slope_)), some (.im (toD x_))] _ _)
        exact blk_ret L trivial hr_
noncomputable def m_Curve_lift (self_ : O_Curve) (x_ : Int) (odd_ : Bool) : Res (Option (T2 Int Int)) :=
  ((((((Res.ok x_)).bind fun (x : Int) => Res.ok (toD x)).bind fun a449 => ((((Res.ok self_)).bind fun (t447 : O_Curve) => Res.ok t447.f_prime).bind fun a451 => (Res.ok ()).bind fun a452 => Res.ok (a451, a452)).bind fun a450 => Res.ok (a449, a450)).bind fun p448 => m_is_residue p448.1 p448.2.1).bind fun (t453 : Bool) => Res.ok (!t453)).bind fun b => cond b   ((Res.ok (none : (Option (T2 Int Int)))))   ((((((Res.ok self_)).bind fun (o454 : O_Curve) => (((Res.ok x_)).bind fun a456 => (Res.ok ()).bind fun a457 => Res.ok (a456, a457)).bind fun p455 => m_Curve_u_right_side o454 p455.1).bind fun a460 => ((((Res.ok self_)).bind fun (t458 : O_Curve) => Res.ok t458.f_prime).bind fun a462 => (((Res.ok odd_)).bind fun a464 => (Res.ok ()).bind fun a465 => Res.ok (a464, a465)).bind fun a463 => Res.ok (a462, a463)).bind fun a461 => Res.ok (a460, a461)).bind fun p459 => m_root_with_parity p459.1 p459.2.1 p459.2.2.1).bind fun (y_ : (Option Int)) =>   (((Res.ok y_)).bind fun (t466 : (Option Int)) => ((Res.ok ())).bind fun (t467 : Unit) => Res.ok (toD t466).isNon).bind fun b473 => cond b473 ((Res.ok (none : (Option (T2 Int Int))))) (((((Res.ok x_)).bind fun a469 => ((((Res.ok y_)).bind optGet).bind fun a471 => (Res.ok ()).bind fun a472 => Res.ok (a471, a472)).bind fun a470 => Res.ok (a469, a470)).bind fun p468 => Res.ok (T2.mk p468.1 p468.2.1)).bind fun (x : (T2 Int Int)) => Res.ok (some x)))
theorem ok_Curve_lift {P : Program} {w : World} {K : PySem.W.Frag} {mg : Str → Option Value} {base : Heap} (T : Facts K mg) {fd : FuncData} (F : FnP K "lift" "Curve.lift" s_Curve_lift (He.ma K (He.ga K "Curve") "lift") fd) :
    FnOk P w K mg base (L2.CX P w) 7 (He.ma K (He.ga K "Curve") "lift") fd ["self", "x", "odd"] (spM K (fun (p : O_Curve × Int × Bool × Unit) => m_Curve_lift p.1 p.2.1 p.2.2.1)) := by
  obtain ⟨fd_Curve_u_right_side, F_Curve_u_right_side⟩ := T.d_Curve_u_right_side
  have G_Curve_u_right_side := ok_Curve_u_right_side (P := P) (w := w) (base := base) T F_Curve_u_right_side
  have b_Curve_u_right_side : Binds K fd_Curve_u_right_side ["self", "x"] [] := F_Curve_u_right_side.bindsN fun _ _ _ _ _ _ us hl => match us, hl with | [_, _], _ => rfl
  obtain ⟨fd_is_residue, F_is_residue⟩ := T.d_is_residue
  have G_is_residue := ok_is_residue (P := P) (w := w) (base := base) T F_is_residue
  have b_is_residue : Binds K fd_is_residue ["value", "modulus"] [] := F_is_residue.bindsN fun _ _ _ _ _ _ us hl => match us, hl with | [_, _], _ => rfl
  obtain ⟨fd_root_with_parity, F_root_with_parity⟩ := T.d_root_with_parity
  have G_root_with_parity := ok_root_with_parity (P := P) (w := w) (base := base) T F_root_with_parity
  have b_root_with_parity : Binds K fd_root_with_parity ["a", "prime", "odd"] [] := F_root_with_parity.bindsN fun _ _ _ _ _ _ us hl => match us, hl with | [_, _, _], _ => rfl
  refine fn_ok F sc_Curve_lift (fun y => rfl) (fun cdv A outer s H E hr => ?_)
  refine ⟨_, (pss_cons (ps_if (pt_not (pt_val (pe_callS G_is_residue (hr.mono (by decide)) rfl T.g_is_residue F_is_residue.kp b_is_residue (fun σ => passAt (takes_of rfl rfl rfl rfl) σ) (pa_cons (pv 1) (pa_cons (pe_fld (pv 0) rfl) pa_nil))))) (pss_one (ps_ret pe_non)) pss_nil) (pss_cons (ps_set (i := 3) sc_Curve_lift.nd rfl (Or.inl rfl) (pe_callS G_root_with_parity (hr.mono (by decide)) rfl T.g_root_with_parity F_root_with_parity.kp b_root_with_parity (fun σ => passAt (takes_of rfl rfl rfl rfl) σ) (pa_cons (pe_methQ (pv 0) T.cl_Curve T.mt_Curve_u_right_side G_Curve_u_right_side (hr.mono (by decide)) b_Curve_u_right_side (fun σ => passAt (takes_of rfl rfl rfl rfl) σ) (pa_cons (pv 1) pa_nil)) (pa_cons (pe_fld (pv 0) rfl) (pa_cons (pv 2) pa_nil))))) (pss_one (ps_ret (pe_ifExp (pt_cmpR op_isN (pv 3) pe_non (nomark _)) pe_non (pe_tup (pa_cons (pv 1) (pa_cons (pv 3) pa_nil)))))))), ?_⟩
  rintro ⟨self_, x_, odd_, ⟨⟩⟩ F0 H0 Q KP L
  show Blk K F0 H0 KP _ [some (.im (toD self_)), some (.im (toD x_)), some (.im (toD odd_)), none] (m_Curve_lift self_ x_ odd_)
  unfold m_Curve_lift
  have ht_ := ((et_not (et_B (ev_call (f := (fun (p : D × Int × Unit) => m_is_residue p.1 p.2.1)) (ea_cons (ev_as (ev_var (i := 1) (x := x_) rfl) toD (fun _ => rfl) rfl) (ea_cons (ev_fld (g := fun (x : O_Curve) => x.f_prime) (c := "Curve") (ks := ["prime", "a", "b"]) (j := 0) (ev_var (i := 0) (x := self_) rfl) T.cl_Curve T.nf_Curve_prime (by decide +kernel) (fun _ => ⟨_, rfl, rfl⟩)) ea_nil))))) : EvT K (W0 E) [some (.im (toD self_)), some (.im (toD x_)), some (.im (toD odd_)), none] _ _)
  refine blk_seq (blk_if2 L trivial ht_ ?_ ?_)
  · have hr_ := ((ev_noneO (α := (T2 Int Int))) : EvX K (W0 E) [some (.im (toD self_)), some (.im (toD x_)), some (.im (toD odd_)), none] _ _)
    exact blk_ret L trivial hr_
  · refine blk_nil ?_
    try refine Blk.nx ?_
    have hs_ := ((ev_call (f := (fun (p : Int × Int × Bool × Unit) => m_root_with_parity p.1 p.2.1 p.2.2.1)) (ea_cons (ev_meth (c := "Curve") (m := "_right_side") (ks := ["prime", "a", "b"]) (f := (fun (p : O_Curve × Int × Unit) => m_Curve_u_right_side p.1 p.2.1)) (ev_var (i := 0) (x := self_) rfl) (ea_cons (ev_var (i := 1) (x := x_) rfl) ea_nil) (by decide +kernel) (fun _ => ⟨_, rfl⟩)) (ea_cons (ev_fld (g := fun (x : O_Curve) => x.f_prime) (c := "Curve") (ks := ["prime", "a", "b"]) (j := 0) (ev_var (i := 0) (x := self_) rfl) T.cl_Curve T.nf_Curve_prime (by decide +kernel) (fun _ => ⟨_, rfl, rfl⟩)) (ea_cons (ev_var (i := 2) (x := odd_) rfl) ea_nil)))) : EvX K (W0 E) [some (.im (toD self_)), some (.im (toD x_)), some (.im (toD odd_)), none] _ _)
    refine blk_seq (blk_set (i := 3) L trivial hs_ fun y_ => ?_)
    show Blk _ _ _ _ _ [some (.im (toD self_)), some (.im (toD x_)), some (.im (toD odd_)), some (.im (toD y_))] _
    try refine Blk.nx ?_
    have hr_ := ((ev_if (et_test (ev_op opx_isN mild_ok (ev_var (i := 3) (x := y_) rfl) ev_non)) (ev_noneO (α := (T2 Int Int))) (ev_as (ev_tup (f := (fun y => T2.mk y.1 y.2.1)) (ea_cons (ev_var (i := 1) (x := x_) rfl) (ea_cons (ev_castG (f := optGet) optGet_ok optGet_x (ev_var (i := 3) (x := y_) rfl)) ea_nil)) (fun _ => rfl) (fun _ => by show 2 ≤ 100000; decide)) some (fun _ => rfl) rfl)) : EvX K (W0 E) [some (.im (toD self_)), some (.im (toD x_)), some (.im (toD odd_)), some (.im (toD y_))] _ _)
    exact blk_ret L trivial hr_
noncomputable def m_montgomery_numbers (curve_ : O_EdwardsCurve) : Res (T2 Int Int) :=
  (((Res.ok curve_)).bind fun (t474 : O_EdwardsCurve) => Res.ok t474.f_prime).bind fun (p_ : Int) =>   ((((((Res.ok curve_)).bind fun (t475 : O_EdwardsCurve) => Res.ok t475.f_a).bind fun (t477 : Int) => (((Res.ok curve_)).bind fun (t476 : O_EdwardsCurve) => Res.ok t476.f_d).bind fun (t478 : Int) => Res.ok (t477 - t478)).bind fun a480 => (((Res.ok p_)).bind fun a482 => (Res.ok ()).bind fun a483 => Res.ok (a482, a483)).bind fun a481 => Res.ok (a480, a481)).bind fun p479 => m_inverse p479.1 p479.2.1).bind fun (scale_ : Int) =>   ((((((Res.ok (2 : Int))).bind fun (t488 : Int) => ((((Res.ok curve_)).bind fun (t484 : O_EdwardsCurve) => Res.ok t484.f_a).bind fun (t486 : Int) => (((Res.ok curve_)).bind fun (t485 : O_EdwardsCurve) => Res.ok t485.f_d).bind fun (t487 : Int) => Res.ok (t486 + t487)).bind fun (t489 : Int) => Res.ok (t488 * t489)).bind fun (t490 : Int) => ((Res.ok scale_)).bind fun (t491 : Int) => Res.need (CMulX t490 t491) (Res.ok (t490 * t491))).bind fun (t492 : Int) => ((Res.ok p_)).bind fun (t493 : Int) => Res.need (0 < t493) (Res.ok (t492 % t493))).bind fun a499 => (((((Res.ok (4 : Int))).bind fun (t494 : Int) => ((Res.ok scale_)).bind fun (t495 : Int) => Res.ok (t494 * t495)).bind fun (t496 : Int) => ((Res.ok p_)).bind fun (t497 : Int) => Res.need (0 < t497) (Res.ok (t496 % t497))).bind fun a501 => (Res.ok ()).bind fun a502 => Res.ok (a501, a502)).bind fun a500 => Res.ok (a499, a500)).bind fun p498 => Res.ok (T2.mk p498.1 p498.2.1)
theorem ok_montgomery_numbers {P : Program} {w : World} {K : PySem.W.Frag} {mg : Str → Option Value} {base : Heap} (T : Facts K mg) {fd : FuncData} (F : FnP K "montgomery_numbers" "montgomery_numbers" s_montgomery_numbers (He.ga K "montgomery_numbers") fd) :
    FnOk P w K mg base (L2.CX P w) 3 (He.ga K "montgomery_numbers") fd ["curve"] (spM K (fun (p : O_EdwardsCurve × Unit) => m_montgomery_numbers p.1)) := by
  obtain ⟨fd_inverse, F_inverse⟩ := T.d_inverse
  have G_inverse := ok_inverse (P := P) (w := w) (base := base) T F_inverse
  have b_inverse : Binds K fd_inverse ["a", "modulus"] [] := F_inverse.bindsN fun _ _ _ _ _ _ us hl => match us, hl with | [_, _], _ => rfl
  refine fn_ok F sc_montgomery_numbers (fun y => rfl) (fun cdv A outer s H E hr => ?_)
  refine ⟨_, (pss_cons (ps_set (i := 1) sc_montgomery_numbers.nd rfl (Or.inl rfl) (pe_fld (pv 0) rfl)) (pss_cons (ps_set (i := 2) sc_montgomery_numbers.nd rfl (Or.inl rfl) (pe_callS G_inverse (hr.mono (by decide)) rfl T.g_inverse F_inverse.kp b_inverse (fun σ => passAt (takes_of rfl rfl rfl rfl) σ) (pa_cons (pe_op op_sub (pe_fld (pv 0) rfl) (pe_fld (pv 0) rfl)) (pa_cons (pv 1) pa_nil)))) (pss_one (ps_ret (pe_tup (pa_cons (pe_op op_mod (pe_op op_mulX (pe_op op_mul pe_int (pe_op op_add (pe_fld (pv 0) rfl) (pe_fld (pv 0) rfl))) (pv 2)) (pv 1)) (pa_cons (pe_op op_mod (pe_op op_mul pe_int (pv 2)) (pv 1)) pa_nil))))))), ?_⟩
  rintro ⟨curve_, ⟨⟩⟩ F0 H0 Q KP L
  show Blk K F0 H0 KP _ [some (.im (toD curve_)), none, none] (m_montgomery_numbers curve_)
  unfold m_montgomery_numbers
  have hs_ := ((ev_fld (g := fun (x : O_EdwardsCurve) => x.f_prime) (c := "EdwardsCurve") (ks := ["prime", "a", "d"]) (j := 0) (ev_var (i := 0) (x := curve_) rfl) T.cl_EdwardsCurve T.nf_EdwardsCurve_prime (by decide +kernel) (fun _ => ⟨_, rfl, rfl⟩)) : EvX K (W0 E) [some (.im (toD curve_)), none, none] _ _)
  refine blk_seq (blk_set (i := 1) L trivial hs_ fun p_ => ?_)
  show Blk _ _ _ _ _ [some (.im (toD curve_)), some (.im (toD p_)), none] _
  try refine Blk.nx ?_
  have hs_ := ((ev_call (f := (fun (p : Int × Int × Unit) => m_inverse p.1 p.2.1)) (ea_cons (ev_op (opx_I0 (g := fun i j => i - j)) mild_ok (ev_fld (g := fun (x : O_EdwardsCurve) => x.f_a) (c := "EdwardsCurve") (ks := ["prime", "a", "d"]) (j := 1) (ev_var (i := 0) (x := curve_) rfl) T.cl_EdwardsCurve T.nf_EdwardsCurve_a (by decide +kernel) (fun _ => ⟨_, rfl, rfl⟩)) (ev_fld (g := fun (x : O_EdwardsCurve) => x.f_d) (c := "EdwardsCurve") (ks := ["prime", "a", "d"]) (j := 2) (ev_var (i := 0) (x := curve_) rfl) T.cl_EdwardsCurve T.nf_EdwardsCurve_d (by decide +kernel) (fun _ => ⟨_, rfl, rfl⟩))) (ea_cons (ev_var (i := 1) (x := p_) rfl) ea_nil))) : EvX K (W0 E) [some (.im (toD curve_)), some (.im (toD p_)), none] _ _)
  refine blk_seq (blk_set (i := 2) L trivial hs_ fun scale_ => ?_)
  show Blk _ _ _ _ _ [some (.im (toD curve_)), some (.im (toD p_)), some (.im (toD scale_))] _
  try refine Blk.nx ?_
  have hr_ := ((ev_tup (f := (fun y => T2.mk y.1 y.2.1)) (ea_cons (ev_op (opx_I (C := (fun _ j => 0 < j)) (g := fun i j => i % j)) mild_need (ev_op (opx_I (C := CMulX) (g := fun i j => i * j)) mild_need (ev_opI (C := CMul) (g := fun i j => i * j) (fun x y h _ => by cases h; exact .inl (by decide)) (ev_int (i := 2)) (ev_op (opx_I0 (g := fun i j => i + j)) mild_ok (ev_fld (g := fun (x : O_EdwardsCurve) => x.f_a) (c := "EdwardsCurve") (ks := ["prime", "a", "d"]) (j := 1) (ev_var (i := 0) (x := curve_) rfl) T.cl_EdwardsCurve T.nf_EdwardsCurve_a (by decide +kernel) (fun _ => ⟨_, rfl, rfl⟩)) (ev_fld (g := fun (x : O_EdwardsCurve) => x.f_d) (c := "EdwardsCurve") (ks := ["prime", "a", "d"]) (j := 2) (ev_var (i := 0) (x := curve_) rfl) T.cl_EdwardsCurve T.nf_EdwardsCurve_d (by decide +kernel) (fun _ => ⟨_, rfl, rfl⟩)))) (ev_var (i := 2) (x := scale_) rfl)) (ev_var (i := 1) (x := p_) rfl)) (ea_cons (ev_op (opx_I (C := (fun _ j => 0 < j)) (g := fun i j => i % j)) mild_need (ev_opI (C := CMul) (g := fun i j => i * j) (fun x y h _ => by cases h; exact .inl (by decide)) (ev_int (i := 4)) (ev_var (i := 2) (x := scale_) rfl)) (ev_var (i := 1) (x := p_) rfl)) ea_nil)) (fun _ => rfl) (fun _ => by show 2 ≤ 100000; decide)) : EvX K (W0 E) [some (.im (toD curve_)), some (.im (toD p_)), some (.im (toD scale_))] _ _)
  exact blk_ret L trivial hr_
noncomputable def m_to_montgomery (curve_ : O_EdwardsCurve) (point_ : (T2 Int Int)) : Res (Option (T2 Int Int)) :=
  ((Res.ok point_)).bind fun (u503 : (T2 Int Int)) =>   (fun (x_ : Int) (y_ : Int) => (((Res.ok x_)).bind fun (t504 : Int) => ((Res.ok (0 : Int))).bind fun (t505 : Int) => Res.ok (decide (t504 = t505))).bind fun b => cond b   ((((Res.ok y_)).bind fun (t506 : Int) => ((Res.ok (1 : Int))).bind fun (t507 : Int) => Res.ok (decide (t506 = t507))).bind fun b513 => cond b513 ((Res.ok (none : (Option (T2 Int Int))))) (((((Res.ok (0 : Int))).bind fun a509 => (((Res.ok (0 : Int))).bind fun a511 => (Res.ok ()).bind fun a512 => Res.ok (a511, a512)).bind fun a510 => Res.ok (a509, a510)).bind fun p508 => Res.ok (T2.mk p508.1 p508.2.1)).bind fun (x : (T2 Int Int)) => Res.ok (some x)))   ((((Res.ok curve_)).bind fun (t514 : O_EdwardsCurve) => Res.ok t514.f_prime).bind fun (p_ : Int) =>   (((((Res.ok (1 : Int))).bind fun (t515 : Int) => ((Res.ok y_)).bind fun (t516 : Int) => Res.ok (t515 + t516)).bind fun (t524 : Int) => (((((Res.ok (1 : Int))).bind fun (t517 : Int) => ((Res.ok y_)).bind fun (t518 : Int) => Res.ok (t517 - t518)).bind fun a520 => (((Res.ok p_)).bind fun a522 => (Res.ok ()).bind fun a523 => Res.ok (a522, a523)).bind fun a521 => Res.ok (a520, a521)).bind fun p519 => m_inverse p519.1 p519.2.1).bind fun (t525 : Int) => Res.need (CMulX t524 t525) (Res.ok (t524 * t525))).bind fun (t526 : Int) => ((Res.ok p_)).bind fun (t527 : Int) => Res.need (0 < t527) (Res.ok (t526 % t527))).bind fun (u_ : Int) =>   ((((Res.ok u_)).bind fun a538 => (((((Res.ok u_)).bind fun (t533 : Int) => ((((Res.ok x_)).bind fun a529 => (((Res.ok p_)).bind fun a531 => (Res.ok ()).bind fun a532 => Res.ok (a531, a532)).bind fun a530 => Res.ok (a529, a530)).bind fun p528 => m_inverse p528.1 p528.2.1).bind fun (t534 : Int) => Res.need (CMulX t533 t534) (Res.ok (t533 * t534))).bind fun (t535 : Int) => ((Res.ok p_)).bind fun (t536 : Int) => Res.need (0 < t536) (Res.ok (t535 % t536))).bind fun a540 => (Res.ok ()).bind fun a541 => Res.ok (a540, a541)).bind fun a539 => Res.ok (a538, a539)).bind fun p537 => Res.ok (T2.mk p537.1 p537.2.1)).bind fun (x : (T2 Int Int)) => Res.ok (some x))) u503.a u503.b
theorem ok_to_montgomery {P : Program} {w : World} {K : PySem.W.Frag} {mg : Str → Option Value} {base : Heap} (T : Facts K mg) {fd : FuncData} (F : FnP K "to_montgomery" "to_montgomery" s_to_montgomery (He.ga K "to_montgomery") fd) :
    FnOk P w K mg base (L2.CX P w) 3 (He.ga K "to_montgomery") fd ["curve", "point"] (spM K (fun (p : O_EdwardsCurve × (T2 Int Int) × Unit) => m_to_montgomery p.1 p.2.1)) := by
  obtain ⟨fd_inverse, F_inverse⟩ := T.d_inverse
  have G_inverse := ok_inverse (P := P) (w := w) (base := base) T F_inverse
  have b_inverse : Binds K fd_inverse ["a", "modulus"] [] := F_inverse.bindsN fun _ _ _ _ _ _ us hl => match us, hl with | [_, _], _ => rfl
  refine fn_ok F sc_to_montgomery (fun y => rfl) (fun cdv A outer s H E hr => ?_)
  refine ⟨_, (pss_cons (ps_asg (pv 1) (pg_tup rfl (pgs_cons (pg_name (i := 2) sc_to_montgomery.nd rfl (Or.inl rfl)) (pgs_cons (pg_name (i := 3) sc_to_montgomery.nd rfl (Or.inl rfl)) pgs_nil)))) (pss_cons (ps_if (pt_cmpR op_eq (pv 2) pe_int (nomark _)) (pss_one (ps_ret (pe_ifExp (pt_cmpR op_eq (pv 3) pe_int (nomark _)) pe_non (pe_tup (pa_cons pe_int (pa_cons pe_int pa_nil)))))) pss_nil) (pss_cons (ps_set (i := 4) sc_to_montgomery.nd rfl (Or.inl rfl) (pe_fld (pv 0) rfl)) (pss_cons (ps_set (i := 5) sc_to_montgomery.nd rfl (Or.inl rfl) (pe_op op_mod (pe_op op_mulX (pe_op op_add pe_int (pv 3)) (pe_callS G_inverse (hr.mono (by decide)) rfl T.g_inverse F_inverse.kp b_inverse (fun σ => passAt (takes_of rfl rfl rfl rfl) σ) (pa_cons (pe_op op_sub pe_int (pv 3)) (pa_cons (pv 4) pa_nil)))) (pv 4))) (pss_one (ps_ret (pe_tup (pa_cons (pv 5) (pa_cons (pe_op op_mod (pe_op op_mulX (pv 5) (pe_callS G_inverse (hr.mono (by decide)) rfl T.g_inverse F_inverse.kp b_inverse (fun σ => passAt (takes_of rfl rfl rfl rfl) σ) (pa_cons (pv 2) (pa_cons (pv 4) pa_nil)))) (pv 4)) pa_nil))))))))), ?_⟩
  rintro ⟨curve_, point_, ⟨⟩⟩ F0 H0 Q KP L
  show Blk K F0 H0 KP _ [some (.im (toD curve_)), some (.im (toD point_)), none, none, none, none] (m_to_montgomery curve_ point_)
  unfold m_to_montgomery
  have hs_ := ((ev_var (i := 1) (x := point_) rfl) : EvX K (W0 E) [some (.im (toD curve_)), some (.im (toD point_)), none, none, none, none] _ _)
  refine blk_seq (blk_asg L trivial hs_ (fun _ => (gx_tup (gxs_cons gx_name (gxs_cons gx_name gxs_nil)) rfl)) fun u503 => ?_)
  show Blk _ _ _ _ _ [some (.im (toD curve_)), some (.im (toD point_)), some (.im (toD u503.a)), some (.im (toD u503.b)), none, none] ((fun (x_ : Int) (y_ : Int) => _) u503.a u503.b)
  generalize u503.a = x_
  generalize u503.b = y_
  show Blk _ _ _ _ _ [some (.im (toD curve_)), some (.im (toD point_)), some (.im (toD x_)), some (.im (toD y_)), none, none] _
  try refine Blk.nx ?_
  have ht_ := ((et_test (ev_op opx_eqI mild_ok (ev_var (i := 2) (x := x_) rfl) (ev_int (i := 0)))) : EvT K (W0 E) [some (.im (toD curve_)), some (.im (toD point_)), some (.im (toD x_)), some (.im (toD y_)), none, none] _ _)
  refine blk_seq (blk_if2 L trivial ht_ ?_ ?_)
  · have hr_ := ((ev_if (et_test (ev_op opx_eqI mild_ok (ev_var (i := 3) (x := y_) rfl) (ev_int (i := 1)))) (ev_noneO (α := (T2 Int Int))) (ev_as (ev_tup (f := (fun y => T2.mk y.1 y.2.1)) (ea_cons (ev_int (i := 0)) (ea_cons (ev_int (i := 0)) ea_nil)) (fun _ => rfl) (fun _ => by show 2 ≤ 100000; decide)) some (fun _ => rfl) rfl)) : EvX K (W0 E) [some (.im (toD curve_)), some (.im (toD point_)), some (.im (toD x_)), some (.im (toD y_)), none, none] _ _)
    exact blk_ret L trivial hr_
  · refine blk_nil ?_
    try refine Blk.nx ?_
    have hs_ := ((ev_fld (g := fun (x : O_EdwardsCurve) => x.f_prime) (c := "EdwardsCurve") (ks := ["prime", "a", "d"]) (j := 0) (ev_var (i := 0) (x := curve_) rfl) T.cl_EdwardsCurve T.nf_EdwardsCurve_prime (by decide +kernel) (fun _ => ⟨_, rfl, rfl⟩)) : EvX K (W0 E) [some (.im (toD curve_)), some (.im (toD point_)), some (.im (toD x_)), some (.im (toD y_)), none, none] _ _)
    refine blk_seq (blk_set (i := 4) L trivial hs_ fun p_ => ?_)
    show Blk _ _ _ _ _ [some (.im (toD curve_)), some (.im (toD point_)), some (.im (toD x_)), some (.im (toD y_)), some (.im (toD p_)), none] _
    try refine Blk.nx ?_
    have hs_ := ((ev_op (opx_I (C := (fun _ j => 0 < j)) (g := fun i j => i % j)) mild_need (ev_op (opx_I (C := CMulX) (g := fun i j => i * j)) mild_need (ev_op (opx_I0 (g := fun i j => i + j)) mild_ok (ev_int (i := 1)) (ev_var (i := 3) (x := y_) rfl)) (ev_call (f := (fun (p : Int × Int × Unit) => m_inverse p.1 p.2.1)) (ea_cons (ev_op (opx_I0 (g := fun i j => i - j)) mild_ok (ev_int (i := 1)) (ev_var (i := 3) (x := y_) rfl)) (ea_cons (ev_var (i := 4) (x := p_) rfl) ea_nil)))) (ev_var (i := 4) (x := p_) rfl)) : EvX K (W0 E) [some (.im (toD curve_)), some (.im (toD point_)), some (.im (toD x_)), some (.im (toD y_)), some (.im (toD p_)), none] _ _)
    refine blk_seq (blk_set (i := 5) L trivial hs_ fun u_ => ?_)
    show Blk _ _ _ _ _ [some (.im (toD curve_)), some (.im (toD point_)), some (.im (toD x_)), some (.im (toD y_)), some (.im (toD p_)), some (.im (toD u_))] _
    try refine Blk.nx ?_
    have hr_ := ((ev_as (ev_tup (f := (fun y => T2.mk y.1 y.2.1)) (ea_cons (ev_var (i := 5) (x := u_) rfl) (ea_cons (ev_op (opx_I (C := (fun _ j => 0 < j)) (g := fun i j => i % j)) mild_need (ev_op (opx_I (C := CMulX) (g := fun i j => i * j)) mild_need (ev_var (i := 5) (x := u_) rfl) (ev_call (f := (fun (p : Int × Int × Unit) => m_inverse p.1 p.2.1)) (ea_cons (ev_var (i := 2) (x := x_) rfl) (ea_cons (ev_var (i := 4) (x := p_) rfl) ea_nil)))) (ev_var (i := 4) (x := p_) rfl)) ea_nil)) (fun _ => rfl) (fun _ => by show 2 ≤ 100000; decide)) some (fun _ => rfl) rfl) : EvX K (W0 E) [some (.im (toD curve_)), some (.im (toD point_)), some (.im (toD x_)), some (.im (toD y_)), some (.im (toD p_)), some (.im (toD u_))] _ _)
    exact blk_ret L trivial hr_
noncomputable def m_u_on_montgomery (curve_ : O_EdwardsCurve) (pair_ : D) : Res Bool :=
  (((((Res.ok pair_)).bind fun a544 => ((((Res.ok curve_)).bind fun (t542 : O_EdwardsCurve) => Res.ok t542.f_prime).bind fun a546 => (Res.ok ()).bind fun a547 => Res.ok (a546, a547)).bind fun a545 => Res.ok (a544, a545)).bind fun p543 => m_is_residue_pair p543.1 p543.2.1).bind fun (t548 : Bool) => Res.ok (!t548)).bind fun b => cond b   ((Res.ok false))   ((((Res.ok pair_)).bind D.asT2).bind fun (u549 : (T2 D D)) =>   (fun (u_ : D) (v_ : D) => ((((Res.ok curve_)).bind fun a551 => (Res.ok ()).bind fun a552 => Res.ok (a551, a552)).bind fun p550 => m_montgomery_numbers p550.1).bind fun (u553 : (T2 Int Int)) =>   (fun (a_ : Int) (b_ : Int) => (((((((Res.ok b_)).bind fun (t556 : Int) => ((((Res.ok v_)).bind D.asInt).bind fun (t554 : Int) => ((Res.ok (2 : Int))).bind fun (t555 : Int) => Res.need (CPowX t554 t555) (Res.ok (t554 ^ t555.toNat))).bind fun (t557 : Int) => Res.need (CMulX t556 t557) (Res.ok (t556 * t557))).bind fun (t560 : Int) => ((((Res.ok u_)).bind D.asInt).bind fun (t558 : Int) => ((Res.ok (3 : Int))).bind fun (t559 : Int) => Res.need (CPowX t558 t559) (Res.ok (t558 ^ t559.toNat))).bind fun (t561 : Int) => Res.ok (t560 - t561)).bind fun (t566 : Int) => (((Res.ok a_)).bind fun (t564 : Int) => ((((Res.ok u_)).bind D.asInt).bind fun (t562 : Int) => ((Res.ok (2 : Int))).bind fun (t563 : Int) => Res.need (CPowX t562 t563) (Res.ok (t562 ^ t563.toNat))).bind fun (t565 : Int) => Res.need (CMulX t564 t565) (Res.ok (t564 * t565))).bind fun (t567 : Int) => Res.ok (t566 - t567)).bind fun (t568 : Int) => (((Res.ok u_)).bind D.asInt).bind fun (t569 : Int) => Res.ok (t568 - t569)).bind fun (t571 : Int) => (((Res.ok curve_)).bind fun (t570 : O_EdwardsCurve) => Res.ok t570.f_prime).bind fun (t572 : Int) => Res.need (0 < t572) (Res.ok (t571 % t572))).bind fun (t573 : Int) => ((Res.ok (0 : Int))).bind fun (t574 : Int) => Res.ok (decide (t573 = t574))) u553.a u553.b) u549.a u549.b)
theorem ok_u_on_montgomery {P : Program} {w : World} {K : PySem.W.Frag} {mg : Str → Option Value} {base : Heap} (T : Facts K mg) {fd : FuncData} (F : FnP K "_on_montgomery" "_on_montgomery" s_u_on_montgomery (He.ga K "_on_montgomery") fd) :
    FnOk P w K mg base (L2.CX P w) 4 (He.ga K "_on_montgomery") fd ["curve", "pair"] (spM K (fun (p : O_EdwardsCurve × D × Unit) => m_u_on_montgomery p.1 p.2.1)) := by
  obtain ⟨fd_is_residue_pair, F_is_residue_pair⟩ := T.d_is_residue_pair
  have G_is_residue_pair := ok_is_residue_pair (P := P) (w := w) (base := base) T F_is_residue_pair
  have b_is_residue_pair : Binds K fd_is_residue_pair ["value", "modulus"] [] := F_is_residue_pair.bindsN fun _ _ _ _ _ _ us hl => match us, hl with | [_, _], _ => rfl
  obtain ⟨fd_montgomery_numbers, F_montgomery_numbers⟩ := T.d_montgomery_numbers
  have G_montgomery_numbers := ok_montgomery_numbers (P := P) (w := w) (base := base) T F_montgomery_numbers
  have b_montgomery_numbers : Binds K fd_montgomery_numbers ["curve"] [] := F_montgomery_numbers.bindsN fun _ _ _ _ _ _ us hl => match us, hl with | [_], _ => rfl
  refine fn_ok F sc_u_on_montgomery (fun y => rfl) (fun cdv A outer s H E hr => ?_)
  refine ⟨_, (pss_cons (ps_if (pt_not (pt_val (pe_callS G_is_residue_pair (hr.mono (by decide)) rfl T.g_is_residue_pair F_is_residue_pair.kp b_is_residue_pair (fun σ => passAt (takes_of rfl rfl rfl rfl) σ) (pa_cons (pv 1) (pa_cons (pe_fld (pv 0) rfl) pa_nil))))) (pss_one (ps_ret pe_bl)) pss_nil) (pss_cons (ps_asg (pv 1) (pg_tup rfl (pgs_cons (pg_name (i := 2) sc_u_on_montgomery.nd rfl (Or.inl rfl)) (pgs_cons (pg_name (i := 3) sc_u_on_montgomery.nd rfl (Or.inl rfl)) pgs_nil)))) (pss_cons (ps_asg (pe_callS G_montgomery_numbers (hr.mono (by decide)) rfl T.g_montgomery_numbers F_montgomery_numbers.kp b_montgomery_numbers (fun σ => passAt (takes_of rfl rfl rfl rfl) σ) (pa_cons (pv 0) pa_nil)) (pg_tup rfl (pgs_cons (pg_name (i := 4) sc_u_on_montgomery.nd rfl (Or.inl rfl)) (pgs_cons (pg_name (i := 5) sc_u_on_montgomery.nd rfl (Or.inl rfl)) pgs_nil)))) (pss_one (ps_ret (pe_cmpR op_eq (pe_op op_mod (pe_op op_sub (pe_op op_sub (pe_op op_sub (pe_op op_mulX (pv 5) (pe_op op_powX (pv 3) pe_int)) (pe_op op_powX (pv 2) pe_int)) (pe_op op_mulX (pv 4) (pe_op op_powX (pv 2) pe_int))) (pv 2)) (pe_fld (pv 0) rfl)) pe_int (nomark _))))))), ?_⟩
  rintro ⟨curve_, pair_, ⟨⟩⟩ F0 H0 Q KP L
  show Blk K F0 H0 KP _ [some (.im (toD curve_)), some (.im (toD pair_)), none, none, none, none] (m_u_on_montgomery curve_ pair_)
  unfold m_u_on_montgomery
  have ht_ := ((et_not (et_B (ev_call (f := (fun (p : D × Int × Unit) => m_is_residue_pair p.1 p.2.1)) (ea_cons (ev_var (i := 1) (x := pair_) rfl) (ea_cons (ev_fld (g := fun (x : O_EdwardsCurve) => x.f_prime) (c := "EdwardsCurve") (ks := ["prime", "a", "d"]) (j := 0) (ev_var (i := 0) (x := curve_) rfl) T.cl_EdwardsCurve T.nf_EdwardsCurve_prime (by decide +kernel) (fun _ => ⟨_, rfl, rfl⟩)) ea_nil))))) : EvT K (W0 E) [some (.im (toD curve_)), some (.im (toD pair_)), none, none, none, none] _ _)
  refine blk_seq (blk_if2 L trivial ht_ ?_ ?_)
  · have hr_ := ((ev_bl (b := false)) : EvX K (W0 E) [some (.im (toD curve_)), some (.im (toD pair_)), none, none, none, none] _ _)
    exact blk_ret L trivial hr_
  · refine blk_nil ?_
    try refine Blk.nx ?_
    have hs_ := ((ev_cast (f := D.asT2) asT2_ok asT2_x (ev_var (i := 1) (x := pair_) rfl)) : EvX K (W0 E) [some (.im (toD curve_)), some (.im (toD pair_)), none, none, none, none] _ _)
    refine blk_seq (blk_asg L trivial hs_ (fun _ => (gx_tup (gxs_cons gx_name (gxs_cons gx_name gxs_nil)) rfl)) fun u549 => ?_)
    show Blk _ _ _ _ _ [some (.im (toD curve_)), some (.im (toD pair_)), some (.im (toD u549.a)), some (.im (toD u549.b)), none, none] ((fun (u_ : D) (v_ : D) => _) u549.a u549.b)
    generalize u549.a = u_
    generalize u549.b = v_
    show Blk _ _ _ _ _ [some (.im (toD curve_)), some (.im (toD pair_)), some (.im (toD u_)), some (.im (toD v_)), none, none] _
    try refine Blk.nx ?_
    have hs_ := ((ev_call (f := (fun (p : O_EdwardsCurve × Unit) => m_montgomery_numbers p.1)) (ea_cons (ev_var (i := 0) (x := curve_) rfl) ea_nil)) : EvX K (W0 E) [some (.im (toD curve_)), some (.im (toD pair_)), some (.im (toD u_)), some (.im (toD v_)), none, none] _ _)
    refine blk_seq (blk_asg L trivial hs_ (fun _ => (gx_tup (gxs_cons gx_name (gxs_cons gx_name gxs_nil)) rfl)) fun u553 => ?_)
    show Blk _ _ _ _ _ [some (.im (toD curve_)), some (.im (toD pair_)), some (.im (toD u_)), some (.im (toD v_)), some (.im (toD u553.a)), some (.im (toD u553.b))] ((fun (a_ : Int) (b_ : Int) => _) u553.a u553.b)
    generalize u553.a = a_
    generalize u553.b = b_
    show Blk _ _ _ _ _ [some (.im (toD curve_)), some (.im (toD pair_)), some (.im (toD u_)), some (.im (toD v_)), some (.im (toD a_)), some (.im (toD b_))] _
    try refine Blk.nx ?_
    have hr_ := ((ev_op opx_eqI mild_ok (ev_op (opx_I (C := (fun _ j => 0 < j)) (g := fun i j => i % j)) mild_need (ev_op (opx_I0 (g := fun i j => i - j)) mild_ok (ev_op (opx_I0 (g := fun i j => i - j)) mild_ok (ev_op (opx_I0 (g := fun i j => i - j)) mild_ok (ev_op (opx_I (C := CMulX) (g := fun i j => i * j)) mild_need (ev_var (i := 5) (x := b_) rfl) (ev_op (opx_I (C := CPowX) (g := fun i j => i ^ j.toNat)) mild_need (ev_cast (f := D.asInt) asInt_ok asInt_x (ev_var (i := 3) (x := v_) rfl)) (ev_int (i := 2)))) (ev_op (opx_I (C := CPowX) (g := fun i j => i ^ j.toNat)) mild_need (ev_cast (f := D.asInt) asInt_ok asInt_x (ev_var (i := 2) (x := u_) rfl)) (ev_int (i := 3)))) (ev_op (opx_I (C := CMulX) (g := fun i j => i * j)) mild_need (ev_var (i := 4) (x := a_) rfl) (ev_op (opx_I (C := CPowX) (g := fun i j => i ^ j.toNat)) mild_need (ev_cast (f := D.asInt) asInt_ok asInt_x (ev_var (i := 2) (x := u_) rfl)) (ev_int (i := 2))))) (ev_cast (f := D.asInt) asInt_ok asInt_x (ev_var (i := 2) (x := u_) rfl))) (ev_fld (g := fun (x : O_EdwardsCurve) => x.f_prime) (c := "EdwardsCurve") (ks := ["prime", "a", "d"]) (j := 0) (ev_var (i := 0) (x := curve_) rfl) T.cl_EdwardsCurve T.nf_EdwardsCurve_prime (by decide +kernel) (fun _ => ⟨_, rfl, rfl⟩))) (ev_int (i := 0))) : EvX K (W0 E) [some (.im (toD curve_)), some (.im (toD pair_)), some (.im (toD u_)), some (.im (toD v_)), some (.im (toD a_)), some (.im (toD b_))] _ _)
    exact blk_ret L trivial hr_
noncomputable def m_from_montgomery (curve_ : O_EdwardsCurve) (pair_ : D) : Res (T2 Int Int) :=
  (((Res.ok pair_)).bind fun (t575 : D) => ((Res.ok ())).bind fun (t576 : Unit) => Res.ok (toD t575).isNon).bind fun b => cond b   ((((Res.ok (0 : Int))).bind fun a578 => (((Res.ok (1 : Int))).bind fun a580 => (Res.ok ()).bind fun a581 => Res.ok (a580, a581)).bind fun a579 => Res.ok (a578, a579)).bind fun p577 => Res.ok (T2.mk p577.1 p577.2.1))   ((((((Res.ok curve_)).bind fun a583 => (((Res.ok pair_)).bind fun a585 => (Res.ok ()).bind fun a586 => Res.ok (a585, a586)).bind fun a584 => Res.ok (a583, a584)).bind fun p582 => m_u_on_montgomery p582.1 p582.2.1).bind fun (t587 : Bool) => Res.ok (!t587)).bind fun b => cond b   (Res.exc "NotAPoint")   ((((Res.ok curve_)).bind fun (t588 : O_EdwardsCurve) => Res.ok t588.f_prime).bind fun (p_ : Int) =>   (((Res.ok pair_)).bind D.asT2).bind fun (u589 : (T2 D D)) =>   (fun (u_ : D) (v_ : D) => (((Res.ok v_)).bind fun (t590 : D) => ((Res.ok (0 : Int))).bind fun (t591 : Int) => Res.need ((toD t590).okq = true ∧ (toD t591).okq = true) (Res.ok (pyEq (toD t590) (toD t591)))).bind fun b => cond b   ((((Res.ok (0 : Int))).bind fun a595 => ((((Res.ok p_)).bind fun (t592 : Int) => ((Res.ok (1 : Int))).bind fun (t593 : Int) => Res.ok (t592 - t593)).bind fun a597 => (Res.ok ()).bind fun a598 => Res.ok (a597, a598)).bind fun a596 => Res.ok (a595, a596)).bind fun p594 => Res.ok (T2.mk p594.1 p594.2.1))   (((((((Res.ok u_)).bind D.asInt).bind fun (t604 : Int) => (((((Res.ok v_)).bind D.asInt).bind fun a600 => (((Res.ok p_)).bind fun a602 => (Res.ok ()).bind fun a603 => Res.ok (a602, a603)).bind fun a601 => Res.ok (a600, a601)).bind fun p599 => m_inverse p599.1 p599.2.1).bind fun (t605 : Int) => Res.need (CMulX t604 t605) (Res.ok (t604 * t605))).bind fun (t606 : Int) => ((Res.ok p_)).bind fun (t607 : Int) => Res.need (0 < t607) (Res.ok (t606 % t607))).bind fun a622 => (((((((Res.ok u_)).bind D.asInt).bind fun (t608 : Int) => ((Res.ok (1 : Int))).bind fun (t609 : Int) => Res.ok (t608 - t609)).bind fun (t617 : Int) => ((((((Res.ok u_)).bind D.asInt).bind fun (t610 : Int) => ((Res.ok (1 : Int))).bind fun (t611 : Int) => Res.ok (t610 + t611)).bind fun a613 => (((Res.ok p_)).bind fun a615 => (Res.ok ()).bind fun a616 => Res.ok (a615, a616)).bind fun a614 => Res.ok (a613, a614)).bind fun p612 => m_inverse p612.1 p612.2.1).bind fun (t618 : Int) => Res.need (CMulX t617 t618) (Res.ok (t617 * t618))).bind fun (t619 : Int) => ((Res.ok p_)).bind fun (t620 : Int) => Res.need (0 < t620) (Res.ok (t619 % t620))).bind fun a624 => (Res.ok ()).bind fun a625 => Res.ok (a624, a625)).bind fun a623 => Res.ok (a622, a623)).bind fun p621 => Res.ok (T2.mk p621.1 p621.2.1))) u589.a u589.b))
theorem ok_from_montgomery {P : Program} {w : World} {K : PySem.W.Frag} {mg : Str → Option Value} {base : Heap} (T : Facts K mg) {fd : FuncData} (F : FnP K "from_montgomery" "from_montgomery" s_from_montgomery (He.ga K "from_montgomery") fd) :
    FnOk P w K mg base (L2.CX P w) 5 (He.ga K "from_montgomery") fd ["curve", "pair"] (spM K (fun (p : O_EdwardsCurve × D × Unit) => m_from_montgomery p.1 p.2.1)) := by
  obtain ⟨fd_u_on_montgomery, F_u_on_montgomery⟩ := T.d_u_on_montgomery
  have G_u_on_montgomery := ok_u_on_montgomery (P := P) (w := w) (base := base) T F_u_on_montgomery
  have b_u_on_montgomery : Binds K fd_u_on_montgomery ["curve", "pair"] [] := F_u_on_montgomery.bindsN fun _ _ _ _ _ _ us hl => match us, hl with | [_, _], _ => rfl
  obtain ⟨fd_inverse, F_inverse⟩ := T.d_inverse
  have G_inverse := ok_inverse (P := P) (w := w) (base := base) T F_inverse
  have b_inverse : Binds K fd_inverse ["a", "modulus"] [] := F_inverse.bindsN fun _ _ _ _ _ _ us hl => match us, hl with | [_, _], _ => rfl
  refine fn_ok F sc_from_montgomery (fun y => rfl) (fun cdv A outer s H E hr => ?_)
  refine ⟨_, (pss_cons (ps_if (pt_cmpR op_isN (pv 1) pe_non (nomark _)) (pss_one (ps_ret (pe_tup (pa_cons pe_int (pa_cons pe_int pa_nil))))) pss_nil) (pss_cons (ps_if (pt_not (pt_val (pe_callS G_u_on_montgomery (hr.mono (by decide)) rfl T.g_u_on_montgomery F_u_on_montgomery.kp b_u_on_montgomery (fun σ => passAt (takes_of rfl rfl rfl rfl) σ) (pa_cons (pv 0) (pa_cons (pv 1) pa_nil))))) (pss_one (ps_raise rfl (takes_of rfl rfl rfl rfl) (pmk_own PySem.F.excBase_ValueError T.x_NotAPoint T.g_NotAPoint T.k_NotAPoint (raises_own T.b_NotAPoint T.t_NotAPoint) rfl))) pss_nil) (pss_cons (ps_set (i := 2) sc_from_montgomery.nd rfl (Or.inl rfl) (pe_fld (pv 0) rfl)) (pss_cons (ps_asg (pv 1) (pg_tup rfl (pgs_cons (pg_name (i := 3) sc_from_montgomery.nd rfl (Or.inl rfl)) (pgs_cons (pg_name (i := 4) sc_from_montgomery.nd rfl (Or.inl rfl)) pgs_nil)))) (pss_cons (ps_if (pt_cmpR (op_eqD (Room.units hr)) (pv 4) pe_int (nomark _)) (pss_one (ps_ret (pe_tup (pa_cons pe_int (pa_cons (pe_op op_sub (pv 2) pe_int) pa_nil))))) pss_nil) (pss_one (ps_ret (pe_tup (pa_cons (pe_op op_mod (pe_op op_mulX (pv 3) (pe_callS G_inverse (hr.mono (by decide)) rfl T.g_inverse F_inverse.kp b_inverse (fun σ => passAt (takes_of rfl rfl rfl rfl) σ) (pa_cons (pv 4) (pa_cons (pv 2) pa_nil)))) (pv 2)) (pa_cons (pe_op op_mod (pe_op op_mulX (pe_op op_sub (pv 3) pe_int) (pe_callS G_inverse (hr.mono (by decide)) rfl T.g_inverse F_inverse.kp b_inverse (fun σ => passAt (takes_of rfl rfl rfl rfl) σ) (pa_cons (pe_op op_add (pv 3) pe_int) (pa_cons (pv 2) pa_nil)))) (pv 2)) pa_nil)))))))))), ?_⟩
  rintro ⟨curve_, pair_, ⟨⟩⟩ F0 H0 Q KP L
  show Blk K F0 H0 KP _ [some (.im (toD curve_)), some (.im (toD pair_)), none, none, none] (m_from_montgomery curve_ pair_)
  unfold m_from_montgomery
  have ht_ := ((et_test (ev_op opx_isN mild_ok (ev_var (i := 1) (x := pair_) rfl) ev_non)) : EvT K (W0 E) [some (.im (toD curve_)), some (.im (toD pair_)), none, none, none] _ _)
  refine blk_seq (blk_if2 L trivial ht_ ?_ ?_)
  · have hr_ := ((ev_tup (f := (fun y => T2.mk y.1 y.2.1)) (ea_cons (ev_int (i := 0)) (ea_cons (ev_int (i := 1)) ea_nil)) (fun _ => rfl) (fun _ => by show 2 ≤ 100000; decide)) : EvX K (W0 E) [some (.im (toD curve_)), some (.im (toD pair_)), none, none, none] _ _)
    exact blk_ret L trivial hr_
  · refine blk_nil ?_
    try refine Blk.nx ?_
    have ht_ := ((et_not (et_B (ev_call (f := (fun (p : O_EdwardsCurve × D × Unit) => m_u_on_montgomery p.1 p.2.1)) (ea_cons (ev_var (i := 0) (x := curve_) rfl) (ea_cons (ev_var (i := 1) (x := pair_) rfl) ea_nil))))) : EvT K (W0 E) [some (.im (toD curve_)), some (.im (toD pair_)), none, none, none] _ _)
    refine blk_seq (blk_if2 L trivial ht_ ?_ ?_)
    · exact blk_raise L trivial
    · refine blk_nil ?_
      try refine Blk.nx ?_
      have hs_ := ((ev_fld (g := fun (x : O_EdwardsCurve) => x.f_prime) (c := "EdwardsCurve") (ks := ["prime", "a", "d"]) (j := 0) (ev_var (i := 0) (x := curve_) rfl) T.cl_EdwardsCurve T.nf_EdwardsCurve_prime (by decide +kernel) (fun _ => ⟨_, rfl, rfl⟩)) : EvX K (W0 E) [some (.im (toD curve_)), some (.im (toD pair_)), none, none, none] _ _)
      refine blk_seq (blk_set (i := 2) L trivial hs_ fun p_ => ?_)
      show Blk _ _ _ _ _ [some (.im (toD curve_)), some (.im (toD pair_)), some (.im (toD p_)), none, none] _
      try refine Blk.nx ?_
      have hs_ := ((ev_cast (f := D.asT2) asT2_ok asT2_x (ev_var (i := 1) (x := pair_) rfl)) : EvX K (W0 E) [some (.im (toD curve_)), some (.im (toD pair_)), some (.im (toD p_)), none, none] _ _)
      refine blk_seq (blk_asg L trivial hs_ (fun _ => (gx_tup (gxs_cons gx_name (gxs_cons gx_name gxs_nil)) rfl)) fun u589 => ?_)
      show Blk _ _ _ _ _ [some (.im (toD curve_)), some (.im (toD pair_)), some (.im (toD p_)), some (.im (toD u589.a)), some (.im (toD u589.b))] ((fun (u_ : D) (v_ : D) => _) u589.a u589.b)
      generalize u589.a = u_
      generalize u589.b = v_
      show Blk _ _ _ _ _ [some (.im (toD curve_)), some (.im (toD pair_)), some (.im (toD p_)), some (.im (toD u_)), some (.im (toD v_))] _
      try refine Blk.nx ?_
      have ht_ := ((et_test (ev_op opx_eqD mild_need (ev_var (i := 4) (x := v_) rfl) (ev_int (i := 0)))) : EvT K (W0 E) [some (.im (toD curve_)), some (.im (toD pair_)), some (.im (toD p_)), some (.im (toD u_)), some (.im (toD v_))] _ _)
      refine blk_seq (blk_if2 L trivial ht_ ?_ ?_)
      · have hr_ := ((ev_tup (f := (fun y => T2.mk y.1 y.2.1)) (ea_cons (ev_int (i := 0)) (ea_cons (ev_op (opx_I0 (g := fun i j => i - j)) mild_ok (ev_var (i := 2) (x := p_) rfl) (ev_int (i := 1))) ea_nil)) (fun _ => rfl) (fun _ => by show 2 ≤ 100000; decide)) : EvX K (W0 E) [some (.im (toD curve_)), some (.im (toD pair_)), some (.im (toD p_)), some (.im (toD u_)), some (.im (toD v_))] _ _)
        exact blk_ret L trivial hr_
      · refine blk_nil ?_
        try refine Blk.nx ?_
        have hr_ := ((ev_tup (f := (fun y => T2.mk y.1 y.2.1)) (ea_cons (ev_op (opx_I (C := (fun _ j => 0 < j)) (g := fun i j => i % j)) mild_need (ev_op (opx_I (C := CMulX) (g := fun i j => i * j)) mild_need (ev_cast (f := D.asInt) asInt_ok asInt_x (ev_var (i := 3) (x := u_) rfl)) (ev_call (f := (fun (p : Int × Int × Unit) => m_inverse p.1 p.2.1)) (ea_cons (ev_cast (f := D.asInt) asInt_ok asInt_x (ev_var (i := 4) (x := v_) rfl)) (ea_cons (ev_var (i := 2) (x := p_) rfl) ea_nil)))) (ev_var (i := 2) (x := p_) rfl)) (ea_cons (ev_op (opx_I (C := (fun _ j => 0 < j)) (g := fun i j => i % j)) mild_need (ev_op (opx_I (C := CMulX) (g := fun i j => i * j)) mild_need (ev_op (opx_I0 (g := fun i j => i - j)) mild_ok (ev_cast (f := D.asInt) asInt_ok asInt_x (ev_var (i := 3) (x := u_) rfl)) (ev_int (i := 1))) (ev_call (f := (fun (p : Int × Int × Unit) => m_inverse p.1 p.2.1)) (ea_cons (ev_op (opx_I0 (g := fun i j => i + j)) mild_ok (ev_cast (f := D.asInt) asInt_ok asInt_x (ev_var (i := 3) (x := u_) rfl)) (ev_int (i := 1))) (ea_cons (ev_var (i := 2) (x := p_) rfl) ea_nil)))) (ev_var (i := 2) (x := p_) rfl)) ea_nil)) (fun _ => rfl) (fun _ => by show 2 ≤ 100000; decide)) : EvX K (W0 E) [some (.im (toD curve_)), some (.im (toD pair_)), some (.im (toD p_)), some (.im (toD u_)), some (.im (toD v_))] _ _)
        exact blk_ret L trivial hr_
noncomputable def m_u_check_prime (curve_ : O_EdwardsCurve) : Res Unit :=
  ((((Res.ok curve_)).bind fun (t626 : O_EdwardsCurve) => Res.ok t626.f_prime).bind fun (t627 : Int) => ((Res.ok (5 : Int))).bind fun (t628 : Int) => Res.ok (decide (t627 < t628))).bind fun b => cond b   (Res.exc "OutOfRange")   (Res.ok ())
theorem ok_u_check_prime {P : Program} {w : World} {K : PySem.W.Frag} {mg : Str → Option Value} {base : Heap} (T : Facts K mg) {fd : FuncData} (F : FnP K "_check_prime" "_check_prime" s_u_check_prime (He.ga K "_check_prime") fd) :
    FnOk P w K mg base (L2.CX P w) 1 (He.ga K "_check_prime") fd ["curve"] (spM K (fun (p : O_EdwardsCurve × Unit) => m_u_check_prime p.1)) := by
  refine fn_ok F sc_u_check_prime (fun y => rfl) (fun cdv A outer s H E hr => ?_)
  refine ⟨_, (pss_one (ps_if (pt_cmpR op_lt (pe_fld (pv 0) rfl) pe_int (nomark _)) (pss_one (ps_raise rfl (takes_of rfl rfl rfl rfl) (pmk_own PySem.F.excBase_ValueError T.x_OutOfRange T.g_OutOfRange T.k_OutOfRange (raises_own T.b_OutOfRange T.t_OutOfRange) rfl))) pss_nil)), ?_⟩
  rintro ⟨curve_, ⟨⟩⟩ F0 H0 Q KP L
  show Blk K F0 H0 KP _ [some (.im (toD curve_))] (m_u_check_prime curve_)
  unfold m_u_check_prime
  have ht_ := ((et_test (ev_op (opx_B0 (g := fun i j => decide (i < j))) mild_ok (ev_fld (g := fun (x : O_EdwardsCurve) => x.f_prime) (c := "EdwardsCurve") (ks := ["prime", "a", "d"]) (j := 0) (ev_var (i := 0) (x := curve_) rfl) T.cl_EdwardsCurve T.nf_EdwardsCurve_prime (by decide +kernel) (fun _ => ⟨_, rfl, rfl⟩)) (ev_int (i := 5)))) : EvT K (W0 E) [some (.im (toD curve_))] _ _)
  refine blk_if2 L trivial ht_ ?_ ?_
  · exact blk_raise L trivial
  · refine blk_nil ?_
    try refine Blk.nx ?_
    exact blk_fin L rfl
noncomputable def m_weierstrass_of (curve_ : O_EdwardsCurve) : Res O_Curve :=
  ((((Res.ok curve_)).bind fun a630 => (Res.ok ()).bind fun a631 => Res.ok (a630, a631)).bind fun p629 => m_u_check_prime p629.1).bind fun (_ : Unit) =>   (((Res.ok curve_)).bind fun (t632 : O_EdwardsCurve) => Res.ok t632.f_prime).bind fun (p_ : Int) =>   ((((Res.ok curve_)).bind fun a634 => (Res.ok ()).bind fun a635 => Res.ok (a634, a635)).bind fun p633 => m_montgomery_numbers p633.1).bind fun (u636 : (T2 Int Int)) =>   (fun (a_ : Int) (b_ : Int) => ((((Res.ok (3 : Int))).bind fun (t639 : Int) => (((Res.ok a_)).bind fun (t637 : Int) => ((Res.ok (2 : Int))).bind fun (t638 : Int) => Res.need (CPowX t637 t638) (Res.ok (t637 ^ t638.toNat))).bind fun (t640 : Int) => Res.ok (t639 - t640)).bind fun (t650 : Int) => (((((Res.ok (3 : Int))).bind fun (t643 : Int) => (((Res.ok b_)).bind fun (t641 : Int) => ((Res.ok (2 : Int))).bind fun (t642 : Int) => Res.need (CPowX t641 t642) (Res.ok (t641 ^ t642.toNat))).bind fun (t644 : Int) => Res.ok (t643 * t644)).bind fun a646 => (((Res.ok p_)).bind fun a648 => (Res.ok ()).bind fun a649 => Res.ok (a648, a649)).bind fun a647 => Res.ok (a646, a647)).bind fun p645 => m_inverse p645.1 p645.2.1).bind fun (t651 : Int) => Res.need (CMulX t650 t651) (Res.ok (t650 * t651))).bind fun (new_a_ : Int) =>   (((((Res.ok (2 : Int))).bind fun (t654 : Int) => (((Res.ok a_)).bind fun (t652 : Int) => ((Res.ok (3 : Int))).bind fun (t653 : Int) => Res.need (CPowX t652 t653) (Res.ok (t652 ^ t653.toNat))).bind fun (t655 : Int) => Res.ok (t654 * t655)).bind fun (t658 : Int) => (((Res.ok (9 : Int))).bind fun (t656 : Int) => ((Res.ok a_)).bind fun (t657 : Int) => Res.ok (t656 * t657)).bind fun (t659 : Int) => Res.ok (t658 - t659)).bind fun (t669 : Int) => (((((Res.ok (27 : Int))).bind fun (t662 : Int) => (((Res.ok b_)).bind fun (t660 : Int) => ((Res.ok (3 : Int))).bind fun (t661 : Int) => Res.need (CPowX t660 t661) (Res.ok (t660 ^ t661.toNat))).bind fun (t663 : Int) => Res.ok (t662 * t663)).bind fun a665 => (((Res.ok p_)).bind fun a667 => (Res.ok ()).bind fun a668 => Res.ok (a667, a668)).bind fun a666 => Res.ok (a665, a666)).bind fun p664 => m_inverse p664.1 p664.2.1).bind fun (t670 : Int) => Res.need (CMulX t669 t670) (Res.ok (t669 * t670))).bind fun (new_b_ : Int) =>   (((Res.ok p_)).bind fun a672 => (((Res.ok new_a_)).bind fun a674 => (((Res.ok new_b_)).bind fun a676 => (Res.ok ()).bind fun a677 => Res.ok (a676, a677)).bind fun a675 => Res.ok (a674, a675)).bind fun a673 => Res.ok (a672, a673)).bind fun p671 => m_Curve_init p671.1 p671.2.1 p671.2.2.1) u636.a u636.b
theorem ok_weierstrass_of {P : Program} {w : World} {K : PySem.W.Frag} {mg : Str → Option Value} {base : Heap} (T : Facts K mg) {fd : FuncData} (F : FnP K "weierstrass_of" "weierstrass_of" s_weierstrass_of (He.ga K "weierstrass_of") fd) :
    FnOk P w K mg base (L2.CX P w) 4 (He.ga K "weierstrass_of") fd ["curve"] (spM K (fun (p : O_EdwardsCurve × Unit) => m_weierstrass_of p.1)) := by
  obtain ⟨fd_Curve_init, F_Curve_init⟩ := T.d_Curve_init
  have G_Curve_init := ok_Curve_init (P := P) (w := w) (base := base) T F_Curve_init
  have b_Curve_init : Binds K fd_Curve_init ["self", "prime", "a", "b"] [] := F_Curve_init.bindsN fun _ _ _ _ _ _ us hl => match us, hl with | [_, _, _, _], _ => rfl
  obtain ⟨fd_u_check_prime, F_u_check_prime⟩ := T.d_u_check_prime
  have G_u_check_prime := ok_u_check_prime (P := P) (w := w) (base := base) T F_u_check_prime
  have b_u_check_prime : Binds K fd_u_check_prime ["curve"] [] := F_u_check_prime.bindsN fun _ _ _ _ _ _ us hl => match us, hl with | [_], _ => rfl
  obtain ⟨fd_inverse, F_inverse⟩ := T.d_inverse
  have G_inverse := ok_inverse (P := P) (w := w) (base := base) T F_inverse
  have b_inverse : Binds K fd_inverse ["a", "modulus"] [] := F_inverse.bindsN fun _ _ _ _ _ _ us hl => match us, hl with | [_, _], _ => rfl
  obtain ⟨fd_montgomery_numbers, F_montgomery_numbers⟩ := T.d_montgomery_numbers
  have G_montgomery_numbers := ok_montgomery_numbers (P := P) (w := w) (base := base) T F_montgomery_numbers
  have b_montgomery_numbers : Binds K fd_montgomery_numbers ["curve"] [] := F_montgomery_numbers.bindsN fun _ _ _ _ _ _ us hl => match us, hl with | [_], _ => rfl
  refine fn_ok F sc_weierstrass_of (fun y => rfl) (fun cdv A outer s H E hr => ?_)
  refine ⟨_, (pss_cons (ps_expr (pe_callS G_u_check_prime (hr.mono (by decide)) rfl T.g_u_check_prime F_u_check_prime.kp b_u_check_prime (fun σ => passAt (takes_of rfl rfl rfl rfl) σ) (pa_cons (pv 0) pa_nil))) (pss_cons (ps_set (i := 1) sc_weierstrass_of.nd rfl (Or.inl rfl) (pe_fld (pv 0) rfl)) (pss_cons (ps_asg (pe_callS G_montgomery_numbers (hr.mono (by decide)) rfl T.g_montgomery_numbers F_montgomery_numbers.kp b_montgomery_numbers (fun σ => passAt (takes_of rfl rfl rfl rfl) σ) (pa_cons (pv 0) pa_nil)) (pg_tup rfl (pgs_cons (pg_name (i := 2) sc_weierstrass_of.nd rfl (Or.inl rfl)) (pgs_cons (pg_name (i := 3) sc_weierstrass_of.nd rfl (Or.inl rfl)) pgs_nil)))) (pss_cons (ps_set (i := 4) sc_weierstrass_of.nd rfl (Or.inl rfl) (pe_op op_mulX (pe_op op_sub pe_int (pe_op op_powX (pv 2) pe_int)) (pe_callS G_inverse (hr.mono (by decide)) rfl T.g_inverse F_inverse.kp b_inverse (fun σ => passAt (takes_of rfl rfl rfl rfl) σ) (pa_cons (pe_op op_mul pe_int (pe_op op_powX (pv 3) pe_int)) (pa_cons (pv 1) pa_nil))))) (pss_cons (ps_set (i := 5) sc_weierstrass_of.nd rfl (Or.inl rfl) (pe_op op_mulX (pe_op op_sub (pe_op op_mul pe_int (pe_op op_powX (pv 2) pe_int)) (pe_op op_mul pe_int (pv 2))) (pe_callS G_inverse (hr.mono (by decide)) rfl T.g_inverse F_inverse.kp b_inverse (fun σ => passAt (takes_of rfl rfl rfl rfl) σ) (pa_cons (pe_op op_mul pe_int (pe_op op_powX (pv 3) pe_int)) (pa_cons (pv 1) pa_nil))))) (pss_one (ps_ret (pe_makeQ T.mk_Curve G_Curve_init (hr.mono (by decide)) rfl T.g_Curve b_Curve_init (fun σ => passAt (takes_of rfl rfl rfl rfl) σ) (pa_cons (pv 1) (pa_cons (pv 4) (pa_cons (pv 5) pa_nil))))))))))), ?_⟩
  rintro ⟨curve_, ⟨⟩⟩ F0 H0 Q KP L
  show Blk K F0 H0 KP _ [some (.im (toD curve_)), none, none, none, none, none] (m_weierstrass_of curve_)
  unfold m_weierstrass_of
  have hs_ := ((ev_call (f := (fun (p : O_EdwardsCurve × Unit) => m_u_check_prime p.1)) (ea_cons (ev_var (i := 0) (x := curve_) rfl) ea_nil)) : EvX K (W0 E) [some (.im (toD curve_)), none, none, none, none, none] _ _)
  refine blk_seq (blk_expr L trivial hs_ fun _ => ?_)
  try refine Blk.nx ?_
  have hs_ := ((ev_fld (g := fun (x : O_EdwardsCurve) => x.f_prime) (c := "EdwardsCurve") (ks := ["prime", "a", "d"]) (j := 0) (ev_var (i := 0) (x := curve_) rfl) T.cl_EdwardsCurve T.nf_EdwardsCurve_prime (by decide +kernel) (fun _ => ⟨_, rfl, rfl⟩)) : EvX K (W0 E) [some (.im (toD curve_)), none, none, none, none, none] _ _)
  refine blk_seq (blk_set (i := 1) L trivial hs_ fun p_ => ?_)
  show Blk _ _ _ _ _ [some (.im (toD curve_)), some (.im (toD p_)), none, none, none, none] _
  try refine Blk.nx ?_
  have hs_ := ((ev_call (f := (fun (p : O_EdwardsCurve × Unit) => m_montgomery_numbers p.1)) (ea_cons (ev_var (i := 0) (x := curve_) rfl) ea_nil)) : EvX K (W0 E) [some (.im (toD curve_)), some (.im (toD p_)), none, none, none, none] _ _)
  refine blk_seq (blk_asg L trivial hs_ (fun _ => (gx_tup (gxs_cons gx_name (gxs_cons gx_name gxs_nil)) rfl)) fun u636 => ?_)
  show Blk _ _ _ _ _ [some (.im (toD curve_)), some (.im (toD p_)), some (.im (toD u636.a)), some (.im (toD u636.b)), none, none] ((fun (a_ : Int) (b_ : Int) => _) u636.a u636.b)
  generalize u636.a = a_
  generalize u636.b = b_
  show Blk _ _ _ _ _ [some (.im (toD curve_)), some (.im (toD p_)), some (.im (toD a_)), some (.im (toD b_)), none, none] _
  try refine Blk.nx ?_
  have hs_ := ((ev_op (opx_I (C := CMulX) (g := fun i j => i * j)) mild_need (ev_op (opx_I0 (g := fun i j => i - j)) mild_ok (ev_int (i := 3)) (ev_op (opx_I (C := CPowX) (g := fun i j => i ^ j.toNat)) mild_need (ev_var (i := 2) (x := a_) rfl) (ev_int (i := 2)))) (ev_call (f := (fun (p : Int × Int × Unit) => m_inverse p.1 p.2.1)) (ea_cons (ev_opI (C := CMul) (g := fun i j => i * j) (fun x y h _ => by cases h; exact .inl (by decide)) (ev_int (i := 3)) (ev_op (opx_I (C := CPowX) (g := fun i j => i ^ j.toNat)) mild_need (ev_var (i := 3) (x := b_) rfl) (ev_int (i := 2)))) (ea_cons (ev_var (i := 1) (x := p_) rfl) ea_nil)))) : EvX K (W0 E) [some (.im (toD curve_)), some (.im (toD p_)), some (.im (toD a_)), some (.im (toD b_)), none, none] _ _)
  refine blk_seq (blk_set (i := 4) L trivial hs_ fun new_a_ => ?_)
  show Blk _ _ _ _ _ [some (.im (toD curve_)), some (.im (toD p_)), some (.im (toD a_)), some (.im (toD b_)), some (.im (toD new_a_)), none] _
  try refine Blk.nx ?_
  have hs_ := ((ev_op (opx_I (C := CMulX) (g := fun i j => i * j)) mild_need (ev_op (opx_I0 (g := fun i j => i - j)) mild_ok (ev_opI (C := CMul) (g := fun i j => i * j) (fun x y h _ => by cases h; exact .inl (by decide)) (ev_int (i := 2)) (ev_op (opx_I (C := CPowX) (g := fun i j => i ^ j.toNat)) mild_need (ev_var (i := 2) (x := a_) rfl) (ev_int (i := 3)))) (ev_opI (C := CMul) (g := fun i j => i * j) (fun x y h _ => by cases h; exact .inl (by decide)) (ev_int (i := 9)) (ev_var (i := 2) (x := a_) rfl))) (ev_call (f := (fun (p : Int × Int × Unit) => m_inverse p.1 p.2.1)) (ea_cons (ev_opI (C := CMul) (g := fun i j => i * j) (fun x y h _ => by cases h; exact .inl (by decide)) (ev_int (i := 27)) (ev_op (opx_I (C := CPowX) (g := fun i j => i ^ j.toNat)) mild_need (ev_var (i := 3) (x := b_) rfl) (ev_int (i := 3)))) (ea_cons (ev_var (i := 1) (x := p_) rfl) ea_nil)))) : EvX K (W0 E) [some (.im (toD curve_)), some (.im (toD p_)), some (.im (toD a_)), some (.im (toD b_)), some (.im (toD new_a_)), none] _ _)
  refine blk_seq (blk_set (i := 5) L trivial hs_ fun new_b_ => ?_)
  show Blk _ _ _ _ _ [some (.im (toD curve_)), some (.im (toD p_)), some (.im (toD a_)), some (.im (toD b_)), some (.im (toD new_a_)), some (.im (toD new_b_))] _
  try refine Blk.nx ?_
  have hr_ := ((ev_make (c := "Curve") (f := (fun (p : Int × Int × Int × Unit) => m_Curve_init p.1 p.2.1 p.2.2.1)) (ea_cons (ev_var (i := 1) (x := p_) rfl) (ea_cons (ev_var (i := 4) (x := new_a_) rfl) (ea_cons (ev_var (i := 5) (x := new_b_) rfl) ea_nil)))) : EvX K (W0 E) [some (.im (toD curve_)), some (.im (toD p_)), some (.im (toD a_)), some (.im (toD b_)), some (.im (toD new_a_)), some (.im (toD new_b_))] _ _)
  exact blk_ret L trivial hr_
noncomputable def m_to_weierstrass (curve_ : O_EdwardsCurve) (point_ : (T2 Int Int)) : Res (Option (T2 Int Int)) :=
  ((((Res.ok curve_)).bind fun a679 => (Res.ok ()).bind fun a680 => Res.ok (a679, a680)).bind fun p678 => m_u_check_prime p678.1).bind fun (_ : Unit) =>   ((((Res.ok curve_)).bind fun a682 => (((Res.ok point_)).bind fun a684 => (Res.ok ()).bind fun a685 => Res.ok (a684, a685)).bind fun a683 => Res.ok (a682, a683)).bind fun p681 => m_to_montgomery p681.1 p681.2.1).bind fun (pair_ : (Option (T2 Int Int))) =>   (((Res.ok pair_)).bind fun (t686 : (Option (T2 Int Int))) => ((Res.ok ())).bind fun (t687 : Unit) => Res.ok (toD t686).isNon).bind fun b => cond b   ((Res.ok (none : (Option (T2 Int Int)))))   ((((Res.ok curve_)).bind fun (t688 : O_EdwardsCurve) => Res.ok t688.f_prime).bind fun (p_ : Int) =>   ((((Res.ok curve_)).bind fun a690 => (Res.ok ()).bind fun a691 => Res.ok (a690, a691)).bind fun p689 => m_montgomery_numbers p689.1).bind fun (u692 : (T2 Int Int)) =>   (fun (a_ : Int) (b_ : Int) => ((((Res.ok b_)).bind fun a694 => (((Res.ok p_)).bind fun a696 => (Res.ok ()).bind fun a697 => Res.ok (a696, a697)).bind fun a695 => Res.ok (a694, a695)).bind fun p693 => m_inverse p693.1 p693.2.1).bind fun (scale_ : Int) =>   (((((((((Res.ok pair_)).bind optGet).bind fun (t698 : (T2 Int Int)) => Res.ok t698.a).bind fun (t706 : Int) => (((Res.ok a_)).bind fun (t704 : Int) => ((((Res.ok (3 : Int))).bind fun a700 => (((Res.ok p_)).bind fun a702 => (Res.ok ()).bind fun a703 => Res.ok (a702, a703)).bind fun a701 => Res.ok (a700, a701)).bind fun p699 => m_inverse p699.1 p699.2.1).bind fun (t705 : Int) => Res.need (CMulX t704 t705) (Res.ok (t704 * t705))).bind fun (t707 : Int) => Res.ok (t706 + t707)).bind fun (t708 : Int) => ((Res.ok scale_)).bind fun (t709 : Int) => Res.need (CMulX t708 t709) (Res.ok (t708 * t709))).bind fun (t710 : Int) => ((Res.ok p_)).bind fun (t711 : Int) => Res.need (0 < t711) (Res.ok (t710 % t711))).bind fun a718 => (((((((Res.ok pair_)).bind optGet).bind fun (t712 : (T2 Int Int)) => Res.ok t712.b).bind fun (t713 : Int) => ((Res.ok scale_)).bind fun (t714 : Int) => Res.need (CMulX t713 t714) (Res.ok (t713 * t714))).bind fun (t715 : Int) => ((Res.ok p_)).bind fun (t716 : Int) => Res.need (0 < t716) (Res.ok (t715 % t716))).bind fun a720 => (Res.ok ()).bind fun a721 => Res.ok (a720, a721)).bind fun a719 => Res.ok (a718, a719)).bind fun p717 => Res.ok (T2.mk p717.1 p717.2.1)).bind fun (x : (T2 Int Int)) => Res.ok (some x)) u692.a u692.b)
theorem ok_to_weierstrass {P : Program} {w : World} {K : PySem.W.Frag} {mg : Str → Option Value} {base : Heap} (T : Facts K mg) {fd : FuncData} (F : FnP K "to_weierstrass" "to_weierstrass" s_to_weierstrass (He.ga K "to_weierstrass") fd) :
    FnOk P w K mg base (L2.CX P w) 4 (He.ga K "to_weierstrass") fd ["curve", "point"] (spM K (fun (p : O_EdwardsCurve × (T2 Int Int) × Unit) => m_to_weierstrass p.1 p.2.1)) := by
  obtain ⟨fd_u_check_prime, F_u_check_prime⟩ := T.d_u_check_prime
  have G_u_check_prime := ok_u_check_prime (P := P) (w := w) (base := base) T F_u_check_prime
  have b_u_check_prime : Binds K fd_u_check_prime ["curve"] [] := F_u_check_prime.bindsN fun _ _ _ _ _ _ us hl => match us, hl with | [_], _ => rfl
  obtain ⟨fd_inverse, F_inverse⟩ := T.d_inverse
  have G_inverse := ok_inverse (P := P) (w := w) (base := base) T F_inverse
  have b_inverse : Binds K fd_inverse ["a", "modulus"] [] := F_inverse.bindsN fun _ _ _ _ _ _ us hl => match us, hl with | [_, _], _ => rfl
  obtain ⟨fd_montgomery_numbers, F_montgomery_numbers⟩ := T.d_montgomery_numbers
  have G_montgomery_numbers := ok_montgomery_numbers (P := P) (w := w) (base := base) T F_montgomery_numbers
  have b_montgomery_numbers : Binds K fd_montgomery_numbers ["curve"] [] := F_montgomery_numbers.bindsN fun _ _ _ _ _ _ us hl => match us, hl with | [_], _ => rfl
  obtain ⟨fd_to_montgomery, F_to_montgomery⟩ := T.d_to_montgomery
  have G_to_montgomery := ok_to_montgomery (P := P) (w := w) (base := base) T F_to_montgomery
  have b_to_montgomery : Binds K fd_to_montgomery ["curve", "point"] [] := F_to_montgomery.bindsN fun _ _ _ _ _ _ us hl => match us, hl with | [_, _], _ => rfl
  refine fn_ok F sc_to_weierstrass (fun y => rfl) (fun cdv A outer s H E hr => ?_)
  refine ⟨_, (pss_cons (ps_expr (pe_callS G_u_check_prime (hr.mono (by decide)) rfl T.g_u_check_prime F_u_check_prime.kp b_u_check_prime (fun σ => passAt (takes_of rfl rfl rfl rfl) σ) (pa_cons (pv 0) pa_nil))) (pss_cons (ps_set (i := 2) sc_to_weierstrass.nd rfl (Or.inl rfl) (pe_callS G_to_montgomery (hr.mono (by decide)) rfl T.g_to_montgomery F_to_montgomery.kp b_to_montgomery (fun σ => passAt (takes_of rfl rfl rfl rfl) σ) (pa_cons (pv 0) (pa_cons (pv 1) pa_nil)))) (pss_cons (ps_if (pt_cmpR op_isN (pv 2) pe_non (nomark _)) (pss_one (ps_ret pe_non)) pss_nil) (pss_cons (ps_set (i := 3) sc_to_weierstrass.nd rfl (Or.inl rfl) (pe_fld (pv 0) rfl)) (pss_cons (ps_asg (pe_callS G_montgomery_numbers (hr.mono (by decide)) rfl T.g_montgomery_numbers F_montgomery_numbers.kp b_montgomery_numbers (fun σ => passAt (takes_of rfl rfl rfl rfl) σ) (pa_cons (pv 0) pa_nil)) (pg_tup rfl (pgs_cons (pg_name (i := 4) sc_to_weierstrass.nd rfl (Or.inl rfl)) (pgs_cons (pg_name (i := 5) sc_to_weierstrass.nd rfl (Or.inl rfl)) pgs_nil)))) (pss_cons (ps_set (i := 6) sc_to_weierstrass.nd rfl (Or.inl rfl) (pe_callS G_inverse (hr.mono (by decide)) rfl T.g_inverse F_inverse.kp b_inverse (fun σ => passAt (takes_of rfl rfl rfl rfl) σ) (pa_cons (pv 5) (pa_cons (pv 3) pa_nil)))) (pss_one (ps_ret (pe_tup (pa_cons (pe_op op_mod (pe_op op_mulX (pe_op op_add (pe_ix (cr_ixT rfl) (pv 2) pe_int (fun _ _ => rfl)) (pe_op op_mulX (pv 4) (pe_callS G_inverse (hr.mono (by decide)) rfl T.g_inverse F_inverse.kp b_inverse (fun σ => passAt (takes_of rfl rfl rfl rfl) σ) (pa_cons pe_int (pa_cons (pv 3) pa_nil))))) (pv 6)) (pv 3)) (pa_cons (pe_op op_mod (pe_op op_mulX (pe_ix (cr_ixT rfl) (pv 2) pe_int (fun _ _ => rfl)) (pv 6)) (pv 3)) pa_nil))))))))))), ?_⟩
  rintro ⟨curve_, point_, ⟨⟩⟩ F0 H0 Q KP L
  show Blk K F0 H0 KP _ [some (.im (toD curve_)), some (.im (toD point_)), none, none, none, none, none] (m_to_weierstrass curve_ point_)
  unfold m_to_weierstrass
  have hs_ := ((ev_call (f := (fun (p : O_EdwardsCurve × Unit) => m_u_check_prime p.1)) (ea_cons (ev_var (i := 0) (x := curve_) rfl) ea_nil)) : EvX K (W0 E) [some (.im (toD curve_)), some (.im (toD point_)), none, none, none, none, none] _ _)
  refine blk_seq (blk_expr L trivial hs_ fun _ => ?_)
  try refine Blk.nx ?_
  have hs_ := ((ev_call (f := (fun (p : O_EdwardsCurve × (T2 Int Int) × Unit) => m_to_montgomery p.1 p.2.1)) (ea_cons (ev_var (i := 0) (x := curve_) rfl) (ea_cons (ev_var (i := 1) (x := point_) rfl) ea_nil))) : EvX K (W0 E) [some (.im (toD curve_)), some (.im (toD point_)), none, none, none, none, none] _ _)
  refine blk_seq (blk_set (i := 2) L trivial hs_ fun pair_ => ?_)
  show Blk _ _ _ _ _ [some (.im (toD curve_)), some (.im (toD point_)), some (.im (toD pair_)), none, none, none, none] _
  try refine Blk.nx ?_
  have ht_ := ((et_test (ev_op opx_isN mild_ok (ev_var (i := 2) (x := pair_) rfl) ev_non)) : EvT K (W0 E) [some (.im (toD curve_)), some (.im (toD point_)), some (.im (toD pair_)), none, none, none, none] _ _)
  refine blk_seq (blk_if2 L trivial ht_ ?_ ?_)
  · have hr_ := ((ev_noneO (α := (T2 Int Int))) : EvX K (W0 E) [some (.im (toD curve_)), some (.im (toD point_)), some (.im (toD pair_)), none, none, none, none] _ _)
    exact blk_ret L trivial hr_
  · refine blk_nil ?_
    try refine Blk.nx ?_
    have hs_ := ((ev_fld (g := fun (x : O_EdwardsCurve) => x.f_prime) (c := "EdwardsCurve") (ks := ["prime", "a", "d"]) (j := 0) (ev_var (i := 0) (x := curve_) rfl) T.cl_EdwardsCurve T.nf_EdwardsCurve_prime (by decide +kernel) (fun _ => ⟨_, rfl, rfl⟩)) : EvX K (W0 E) [some (.im (toD curve_)), some (.im (toD point_)), some (.im (toD pair_)), none, none, none, none] _ _)
    refine blk_seq (blk_set (i := 3) L trivial hs_ fun p_ => ?_)
    show Blk _ _ _ _ _ [some (.im (toD curve_)), some (.im (toD point_)), some (.im (toD pair_)), some (.im (toD p_)), none, none, none] _
    try refine Blk.nx ?_
    have hs_ := ((ev_call (f := (fun (p : O_EdwardsCurve × Unit) => m_montgomery_numbers p.1)) (ea_cons (ev_var (i := 0) (x := curve_) rfl) ea_nil)) : EvX K (W0 E) [some (.im (toD curve_)), some (.im (toD point_)), some (.im (toD pair_)), some (.im (toD p_)), none, none, none] _ _)
    refine blk_seq (blk_asg L trivial hs_ (fun _ => (gx_tup (gxs_cons gx_name (gxs_cons gx_name gxs_nil)) rfl)) fun u692 => ?_)
    show Blk _ _ _ _ _ [some (.im (toD curve_)), some (.im (toD point_)), some (.im (toD pair_)), some (.im (toD p_)), some (.im (toD u692.a)), some (.im (toD u692.b)), none] ((fun (a_ : Int) (b_ : Int) => _) u692.a u692.b)
    generalize u692.a = a_
    generalize u692.b = b_
    show Blk _ _ _ _ _ [some (.im (toD curve_)), some (.im (toD point_)), some (.im (toD pair_)), some (.im (toD p_)), some (.im (toD a_)), some (.im (toD b_)), none] _
    try refine Blk.nx ?_
    have hs_ := ((ev_call (f := (fun (p : Int × Int × Unit) => m_inverse p.1 p.2.1)) (ea_cons (ev_var (i := 5) (x := b_) rfl) (ea_cons (ev_var (i := 3) (x := p_) rfl) ea_nil))) : EvX K (W0 E) [some (.im (toD curve_)), some (.im (toD point_)), some (.im (toD pair_)), some (.im (toD p_)), some (.im (toD a_)), some (.im (toD b_)), none] _ _)
    refine blk_seq (blk_set (i := 6) L trivial hs_ fun scale_ => ?_)
    show Blk _ _ _ _ _ [some (.im (toD curve_)), some (.im (toD point_)), some (.im (toD pair_)), some (.im (toD p_)), some (.im (toD a_)), some (.im (toD b_)), some (.im (toD scale_))] _
    try refine Blk.nx ?_
    have hr_ := ((ev_as (ev_tup (f := (fun y => T2.mk y.1 y.2.1)) (ea_cons (ev_op (opx_I (C := (fun _ j => 0 < j)) (g := fun i j => i % j)) mild_need (ev_op (opx_I (C := CMulX) (g := fun i j => i * j)) mild_need (ev_op (opx_I0 (g := fun i j => i + j)) mild_ok (ev_ixTC (i := 0) (f := fun x => x.a) (ev_castG (f := optGet) optGet_ok optGet_x (ev_var (i := 2) (x := pair_) rfl)) (fun x => ⟨_, rfl, rfl⟩)) (ev_op (opx_I (C := CMulX) (g := fun i j => i * j)) mild_need (ev_var (i := 4) (x := a_) rfl) (ev_call (f := (fun (p : Int × Int × Unit) => m_inverse p.1 p.2.1)) (ea_cons (ev_int (i := 3)) (ea_cons (ev_var (i := 3) (x := p_) rfl) ea_nil))))) (ev_var (i := 6) (x := scale_) rfl)) (ev_var (i := 3) (x := p_) rfl)) (ea_cons (ev_op (opx_I (C := (fun _ j => 0 < j)) (g := fun i j => i % j)) mild_need (ev_op (opx_I (C := CMulX) (g := fun i j => i * j)) mild_need (ev_ixTC (i := 1) (f := fun x => x.b) (ev_castG (f := optGet) optGet_ok optGet_x (ev_var (i := 2) (x := pair_) rfl)) (fun x => ⟨_, rfl, rfl⟩)) (ev_var (i := 6) (x := scale_) rfl)) (ev_var (i := 3) (x := p_) rfl)) ea_nil)) (fun _ => rfl) (fun _ => by show 2 ≤ 100000; decide)) some (fun _ => rfl) rfl) : EvX K (W0 E) [some (.im (toD curve_)), some (.im (toD point_)), some (.im (toD pair_)), some (.im (toD p_)), some (.im (toD a_)), some (.im (toD b_)), some (.im (toD scale_))] _ _)
    exact blk_ret L trivial hr_
noncomputable def m_EdwardsCurve_has (self_ : O_EdwardsCurve) (point_ : D) : Res Bool :=
  (((((Res.ok point_)).bind fun a724 => ((((Res.ok self_)).bind fun (t722 : O_EdwardsCurve) => Res.ok t722.f_prime).bind fun a726 => (Res.ok ()).bind fun a727 => Res.ok (a726, a727)).bind fun a725 => Res.ok (a724, a725)).bind fun p723 => m_is_residue_pair p723.1 p723.2.1).bind fun (t728 : Bool) => Res.ok (!t728)).bind fun b => cond b   ((Res.ok false))   (((((((Res.ok point_)).bind D.asTu).bind fun (t729 : (Tu D)) => ((Res.ok (0 : Int))).bind fun (t730 : Int) => idx (t729).xs t730).bind D.asInt).bind fun (t731 : Int) => ((Res.ok (2 : Int))).bind fun (t732 : Int) => Res.need (CPowX t731 t732) (Res.ok (t731 ^ t732.toNat))).bind fun (p756 : Int) => ((((((Res.ok point_)).bind D.asTu).bind fun (t733 : (Tu D)) => ((Res.ok (1 : Int))).bind fun (t734 : Int) => idx (t733).xs t734).bind D.asInt).bind fun (t735 : Int) => ((Res.ok (2 : Int))).bind fun (t736 : Int) => Res.need (CPowX t735 t736) (Res.ok (t735 ^ t736.toNat))).bind fun (p757 : Int) =>   (fun (x_square_ : Int) (y_square_ : Int) => ((((((((Res.ok self_)).bind fun (t737 : O_EdwardsCurve) => Res.ok t737.f_a).bind fun (t738 : Int) => ((Res.ok x_square_)).bind fun (t739 : Int) => Res.need (CMulX t738 t739) (Res.ok (t738 * t739))).bind fun (t740 : Int) => ((Res.ok y_square_)).bind fun (t741 : Int) => Res.ok (t740 + t741)).bind fun (t742 : Int) => ((Res.ok (1 : Int))).bind fun (t743 : Int) => Res.ok (t742 - t743)).bind fun (t749 : Int) => (((((Res.ok self_)).bind fun (t744 : O_EdwardsCurve) => Res.ok t744.f_d).bind fun (t745 : Int) => ((Res.ok x_square_)).bind fun (t746 : Int) => Res.need (CMulX t745 t746) (Res.ok (t745 * t746))).bind fun (t747 : Int) => ((Res.ok y_square_)).bind fun (t748 : Int) => Res.need (CMulX t747 t748) (Res.ok (t747 * t748))).bind fun (t750 : Int) => Res.ok (t749 - t750)).bind fun (t752 : Int) => (((Res.ok self_)).bind fun (t751 : O_EdwardsCurve) => Res.ok t751.f_prime).bind fun (t753 : Int) => Res.need (0 < t753) (Res.ok (t752 % t753))).bind fun (t754 : Int) => ((Res.ok (0 : Int))).bind fun (t755 : Int) => Res.ok (decide (t754 = t755))) p756 p757)
theorem ok_EdwardsCurve_has {P : Program} {w : World} {K : PySem.W.Frag} {mg : Str → Option Value} {base : Heap} (T : Facts K mg) {fd : FuncData} (F : FnP K "has" "EdwardsCurve.has" s_EdwardsCurve_has (He.ma K (He.ga K "EdwardsCurve") "has") fd) :
    FnOk P w K mg base (L2.CX P w) 4 (He.ma K (He.ga K "EdwardsCurve") "has") fd ["self", "point"] (spM K (fun (p : O_EdwardsCurve × D × Unit) => m_EdwardsCurve_has p.1 p.2.1)) := by
  obtain ⟨fd_is_residue_pair, F_is_residue_pair⟩ := T.d_is_residue_pair
  have G_is_residue_pair := ok_is_residue_pair (P := P) (w := w) (base := base) T F_is_residue_pair
  have b_is_residue_pair : Binds K fd_is_residue_pair ["value", "modulus"] [] := F_is_residue_pair.bindsN fun _ _ _ _ _ _ us hl => match us, hl with | [_, _], _ => rfl
  refine fn_ok F sc_EdwardsCurve_has (fun y => rfl) (fun cdv A outer s H E hr => ?_)
  refine ⟨_, (pss_cons (ps_if (pt_not (pt_val (pe_callS G_is_residue_pair (hr.mono (by decide)) rfl T.g_is_residue_pair F_is_residue_pair.kp b_is_residue_pair (fun σ => passAt (takes_of rfl rfl rfl rfl) σ) (pa_cons (pv 1) (pa_cons (pe_fld (pv 0) rfl) pa_nil))))) (pss_one (ps_ret pe_bl)) pss_nil) (pss_cons (ps_par (i := 2) (j := 3) (by rfl) sc_EdwardsCurve_has.nd rfl rfl (by decide) rfl rfl (pa_cons (pe_op op_powX (pe_ix (cr_ixT rfl) (pv 1) pe_int (fun _ _ => rfl)) pe_int) (pa_cons (pe_op op_powX (pe_ix (cr_ixT rfl) (pv 1) pe_int (fun _ _ => rfl)) pe_int) pa_nil)) (by rfl)) (pss_one (ps_ret (pe_cmpR op_eq (pe_op op_mod (pe_op op_sub (pe_op op_sub (pe_op op_add (pe_op op_mulX (pe_fld (pv 0) rfl) (pv 2)) (pv 3)) pe_int) (pe_op op_mulX (pe_op op_mulX (pe_fld (pv 0) rfl) (pv 2)) (pv 3))) (pe_fld (pv 0) rfl)) pe_int (nomark _)))))), ?_⟩
  rintro ⟨self_, point_, ⟨⟩⟩ F0 H0 Q KP L
  show Blk K F0 H0 KP _ [some (.im (toD self_)), some (.im (toD point_)), none, none] (m_EdwardsCurve_has self_ point_)
  unfold m_EdwardsCurve_has
  have ht_ := ((et_not (et_B (ev_call (f := (fun (p : D × Int × Unit) => m_is_residue_pair p.1 p.2.1)) (ea_cons (ev_var (i := 1) (x := point_) rfl) (ea_cons (ev_fld (g := fun (x : O_EdwardsCurve) => x.f_prime) (c := "EdwardsCurve") (ks := ["prime", "a", "d"]) (j := 0) (ev_var (i := 0) (x := self_) rfl) T.cl_EdwardsCurve T.nf_EdwardsCurve_prime (by decide +kernel) (fun _ => ⟨_, rfl, rfl⟩)) ea_nil))))) : EvT K (W0 E) [some (.im (toD self_)), some (.im (toD point_)), none, none] _ _)
  refine blk_seq (blk_if2 L trivial ht_ ?_ ?_)
  · have hr_ := ((ev_bl (b := false)) : EvX K (W0 E) [some (.im (toD self_)), some (.im (toD point_)), none, none] _ _)
    exact blk_ret L trivial hr_
  · refine blk_nil ?_
    try refine Blk.nx ?_
    have ha_ := ((ev_op (opx_I (C := CPowX) (g := fun i j => i ^ j.toNat)) mild_need (ev_cast (f := D.asInt) asInt_ok asInt_x (ev_op opx_ixT (fun x y => idx_mild x.xs y) (ev_cast (f := D.asTu) asTu_ok asTu_x (ev_var (i := 1) (x := point_) rfl)) (ev_int (i := 0)))) (ev_int (i := 2))) : EvX K (W0 E) [some (.im (toD self_)), some (.im (toD point_)), none, none] _ _)
    have hb_ := ((ev_op (opx_I (C := CPowX) (g := fun i j => i ^ j.toNat)) mild_need (ev_cast (f := D.asInt) asInt_ok asInt_x (ev_op opx_ixT (fun x y => idx_mild x.xs y) (ev_cast (f := D.asTu) asTu_ok asTu_x (ev_var (i := 1) (x := point_) rfl)) (ev_int (i := 1)))) (ev_int (i := 2))) : EvX K (W0 E) [some (.im (toD self_)), some (.im (toD point_)), none, none] _ _)
    refine blk_seq (blk_par (i := 2) (j := 3) L trivial ha_ hb_ fun x_square_ y_square_ => ?_)
    show Blk _ _ _ _ _ [some (.im (toD self_)), some (.im (toD point_)), some (.im (toD x_square_)), some (.im (toD y_square_))] _
    try refine Blk.nx ?_
    have hr_ := ((ev_op opx_eqI mild_ok (ev_op (opx_I (C := (fun _ j => 0 < j)) (g := fun i j => i % j)) mild_need (ev_op (opx_I0 (g := fun i j => i - j)) mild_ok (ev_op (opx_I0 (g := fun i j => i - j)) mild_ok (ev_op (opx_I0 (g := fun i j => i + j)) mild_ok (ev_op (opx_I (C := CMulX) (g := fun i j => i * j)) mild_need (ev_fld (g := fun (x : O_EdwardsCurve) => x.f_a) (c := "EdwardsCurve") (ks := ["prime", "a", "d"]) (j := 1) (ev_var (i := 0) (x := self_) rfl) T.cl_EdwardsCurve T.nf_EdwardsCurve_a (by decide +kernel) (fun _ => ⟨_, rfl, rfl⟩)) (ev_var (i := 2) (x := x_square_) rfl)) (ev_var (i := 3) (x := y_square_) rfl)) (ev_int (i := 1))) (ev_op (opx_I (C := CMulX) (g := fun i j => i * j)) mild_need (ev_op (opx_I (C := CMulX) (g := fun i j => i * j)) mild_need (ev_fld (g := fun (x : O_EdwardsCurve) => x.f_d) (c := "EdwardsCurve") (ks := ["prime", "a", "d"]) (j := 2) (ev_var (i := 0) (x := self_) rfl) T.cl_EdwardsCurve T.nf_EdwardsCurve_d (by decide +kernel) (fun _ => ⟨_, rfl, rfl⟩)) (ev_var (i := 2) (x := x_square_) rfl)) (ev_var (i := 3) (x := y_square_) rfl))) (ev_fld (g := fun (x : O_EdwardsCurve) => x.f_prime) (c := "EdwardsCurve") (ks := ["prime", "a", "d"]) (j := 0) (ev_var (i := 0) (x := self_) rfl) T.cl_EdwardsCurve T.nf_EdwardsCurve_prime (by decide +kernel) (fun _ => ⟨_, rfl, rfl⟩))) (ev_int (i := 0))) : EvX K (W0 E) [some (.im (toD self_)), some (.im (toD point_)), some (.im (toD x_square_)), some (.im (toD y_square_))] _ _)
    exact blk_ret L trivial hr_
noncomputable def m_from_weierstrass (curve_ : O_EdwardsCurve) (point_ : D) : Res (T2 Int Int) :=
  ((((((Res.ok curve_)).bind fun a759 => (Res.ok ()).bind fun a760 => Res.ok (a759, a760)).bind fun p758 => m_weierstrass_of p758.1).bind fun (o761 : O_Curve) => (((Res.ok point_)).bind fun a763 => (Res.ok ()).bind fun a764 => Res.ok (a763, a764)).bind fun p762 => m_Curve_has o761 p762.1).bind fun (t765 : Bool) => Res.ok (!t765)).bind fun b => cond b   (Res.exc "NotAPoint")   ((((Res.ok point_)).bind fun (t766 : D) => ((Res.ok ())).bind fun (t767 : Unit) => Res.ok (toD t766).isNon).bind fun b => cond b   ((((Res.ok (0 : Int))).bind fun a769 => (((Res.ok (1 : Int))).bind fun a771 => (Res.ok ()).bind fun a772 => Res.ok (a771, a772)).bind fun a770 => Res.ok (a769, a770)).bind fun p768 => Res.ok (T2.mk p768.1 p768.2.1))   ((((Res.ok curve_)).bind fun (t773 : O_EdwardsCurve) => Res.ok t773.f_prime).bind fun (p_ : Int) =>   ((((Res.ok curve_)).bind fun a775 => (Res.ok ()).bind fun a776 => Res.ok (a775, a776)).bind fun p774 => m_montgomery_numbers p774.1).bind fun (u777 : (T2 Int Int)) =>   (fun (a_ : Int) (b_ : Int) => (((Res.ok curve_)).bind fun a805 => (((((((((Res.ok b_)).bind fun (t780 : Int) => (((((Res.ok point_)).bind D.asTu).bind fun (t778 : (Tu D)) => ((Res.ok (0 : Int))).bind fun (t779 : Int) => idx (t778).xs t779).bind D.asInt).bind fun (t781 : Int) => Res.need (CMulX t780 t781) (Res.ok (t780 * t781))).bind fun (t789 : Int) => (((Res.ok a_)).bind fun (t787 : Int) => ((((Res.ok (3 : Int))).bind fun a783 => (((Res.ok p_)).bind fun a785 => (Res.ok ()).bind fun a786 => Res.ok (a785, a786)).bind fun a784 => Res.ok (a783, a784)).bind fun p782 => m_inverse p782.1 p782.2.1).bind fun (t788 : Int) => Res.need (CMulX t787 t788) (Res.ok (t787 * t788))).bind fun (t790 : Int) => Res.ok (t789 - t790)).bind fun (t791 : Int) => ((Res.ok p_)).bind fun (t792 : Int) => Res.need (0 < t792) (Res.ok (t791 % t792))).bind fun a800 => (((((Res.ok b_)).bind fun (t795 : Int) => (((((Res.ok point_)).bind D.asTu).bind fun (t793 : (Tu D)) => ((Res.ok (1 : Int))).bind fun (t794 : Int) => idx (t793).xs t794).bind D.asInt).bind fun (t796 : Int) => Res.need (CMulX t795 t796) (Res.ok (t795 * t796))).bind fun (t797 : Int) => ((Res.ok p_)).bind fun (t798 : Int) => Res.need (0 < t798) (Res.ok (t797 % t798))).bind fun a802 => (Res.ok ()).bind fun a803 => Res.ok (a802, a803)).bind fun a801 => Res.ok (a800, a801)).bind fun p799 => Res.ok (T2.mk p799.1 p799.2.1)).bind fun (x : (T2 Int Int)) => Res.ok (toD x)).bind fun a807 => (Res.ok ()).bind fun a808 => Res.ok (a807, a808)).bind fun a806 => Res.ok (a805, a806)).bind fun p804 => m_from_montgomery p804.1 p804.2.1) u777.a u777.b))
theorem ok_from_weierstrass {P : Program} {w : World} {K : PySem.W.Frag} {mg : Str → Option Value} {base : Heap} (T : Facts K mg) {fd : FuncData} (F : FnP K "from_weierstrass" "from_weierstrass" s_from_weierstrass (He.ga K "from_weierstrass") fd) :
    FnOk P w K mg base (L2.CX P w) 6 (He.ga K "from_weierstrass") fd ["curve", "point"] (spM K (fun (p : O_EdwardsCurve × D × Unit) => m_from_weierstrass p.1 p.2.1)) := by
  obtain ⟨fd_Curve_has, F_Curve_has⟩ := T.d_Curve_has
  have G_Curve_has := ok_Curve_has (P := P) (w := w) (base := base) T F_Curve_has
  have b_Curve_has : Binds K fd_Curve_has ["self", "point"] [] := F_Curve_has.bindsN fun _ _ _ _ _ _ us hl => match us, hl with | [_, _], _ => rfl
  obtain ⟨fd_from_montgomery, F_from_montgomery⟩ := T.d_from_montgomery
  have G_from_montgomery := ok_from_montgomery (P := P) (w := w) (base := base) T F_from_montgomery
  have b_from_montgomery : Binds K fd_from_montgomery ["curve", "pair"] [] := F_from_montgomery.bindsN fun _ _ _ _ _ _ us hl => match us, hl with | [_, _], _ => rfl
  obtain ⟨fd_inverse, F_inverse⟩ := T.d_inverse
  have G_inverse := ok_inverse (P := P) (w := w) (base := base) T F_inverse
  have b_inverse : Binds K fd_inverse ["a", "modulus"] [] := F_inverse.bindsN fun _ _ _ _ _ _ us hl => match us, hl with | [_, _], _ => rfl
  obtain ⟨fd_montgomery_numbers, F_montgomery_numbers⟩ := T.d_montgomery_numbers
  have G_montgomery_numbers := ok_montgomery_numbers (P := P) (w := w) (base := base) T F_montgomery_numbers
  have b_montgomery_numbers : Binds K fd_montgomery_numbers ["curve"] [] := F_montgomery_numbers.bindsN fun _ _ _ _ _ _ us hl => match us, hl with | [_], _ => rfl
  obtain ⟨fd_weierstrass_of, F_weierstrass_of⟩ := T.d_weierstrass_of
  have G_weierstrass_of := ok_weierstrass_of (P := P) (w := w) (base := base) T F_weierstrass_of
  have b_weierstrass_of : Binds K fd_weierstrass_of ["curve"] [] := F_weierstrass_of.bindsN fun _ _ _ _ _ _ us hl => match us, hl with | [_], _ => rfl
  refine fn_ok F sc_from_weierstrass (fun y => rfl) (fun cdv A outer s H E hr => ?_)
  refine ⟨_, (pss_cons (ps_if (pt_not (pt_val (pe_methQ (pe_callS G_weierstrass_of (hr.mono (by decide)) rfl T.g_weierstrass_of F_weierstrass_of.kp b_weierstrass_of (fun σ => passAt (takes_of rfl rfl rfl rfl) σ) (pa_cons (pv 0) pa_nil)) T.cl_Curve T.mt_Curve_has G_Curve_has (hr.mono (by decide)) b_Curve_has (fun σ => passAt (takes_of rfl rfl rfl rfl) σ) (pa_cons (pv 1) pa_nil)))) (pss_one (ps_raise rfl (takes_of rfl rfl rfl rfl) (pmk_own PySem.F.excBase_ValueError T.x_NotAPoint T.g_NotAPoint T.k_NotAPoint (raises_own T.b_NotAPoint T.t_NotAPoint) rfl))) pss_nil) (pss_cons (ps_if (pt_cmpR op_isN (pv 1) pe_non (nomark _)) (pss_one (ps_ret (pe_tup (pa_cons pe_int (pa_cons pe_int pa_nil))))) pss_nil) (pss_cons (ps_set (i := 2) sc_from_weierstrass.nd rfl (Or.inl rfl) (pe_fld (pv 0) rfl)) (pss_cons (ps_asg (pe_callS G_montgomery_numbers (hr.mono (by decide)) rfl T.g_montgomery_numbers F_montgomery_numbers.kp b_montgomery_numbers (fun σ => passAt (takes_of rfl rfl rfl rfl) σ) (pa_cons (pv 0) pa_nil)) (pg_tup rfl (pgs_cons (pg_name (i := 3) sc_from_weierstrass.nd rfl (Or.inl rfl)) (pgs_cons (pg_name (i := 4) sc_from_weierstrass.nd rfl (Or.inl rfl)) pgs_nil)))) (pss_one (ps_ret (pe_callS G_from_montgomery (hr.mono (by decide)) rfl T.g_from_montgomery F_from_montgomery.kp b_from_montgomery (fun σ => passAt (takes_of rfl rfl rfl rfl) σ) (pa_cons (pv 0) (pa_cons (pe_tup (pa_cons (pe_op op_mod (pe_op op_sub (pe_op op_mulX (pv 4) (pe_ix (cr_ixT rfl) (pv 1) pe_int (fun _ _ => rfl))) (pe_op op_mulX (pv 3) (pe_callS G_inverse (hr.mono (by decide)) rfl T.g_inverse F_inverse.kp b_inverse (fun σ => passAt (takes_of rfl rfl rfl rfl) σ) (pa_cons pe_int (pa_cons (pv 2) pa_nil))))) (pv 2)) (pa_cons (pe_op op_mod (pe_op op_mulX (pv 4) (pe_ix (cr_ixT rfl) (pv 1) pe_int (fun _ _ => rfl))) (pv 2)) pa_nil))) pa_nil))))))))), ?_⟩
  rintro ⟨curve_, point_, ⟨⟩⟩ F0 H0 Q KP L
  show Blk K F0 H0 KP _ [some (.im (toD curve_)), some (.im (toD point_)), none, none, none] (m_from_weierstrass curve_ point_)
  unfold m_from_weierstrass
  have ht_ := ((et_not (et_B (ev_meth (c := "Curve") (m := "has") (ks := ["prime", "a", "b"]) (f := (fun (p : O_Curve × D × Unit) => m_Curve_has p.1 p.2.1)) (ev_call (f := (fun (p : O_EdwardsCurve × Unit) => m_weierstrass_of p.1)) (ea_cons (ev_var (i := 0) (x := curve_) rfl) ea_nil)) (ea_cons (ev_var (i := 1) (x := point_) rfl) ea_nil) (by decide +kernel) (fun _ => ⟨_, rfl⟩)))) : EvT K (W0 E) [some (.im (toD curve_)), some (.im (toD point_)), none, none, none] _ _)
  refine blk_seq (blk_if2 L trivial ht_ ?_ ?_)
  · exact blk_raise L trivial
  · refine blk_nil ?_
    try refine Blk.nx ?_
    have ht_ := ((et_test (ev_op opx_isN mild_ok (ev_var (i := 1) (x := point_) rfl) ev_non)) : EvT K (W0 E) [some (.im (toD curve_)), some (.im (toD point_)), none, none, none] _ _)
    refine blk_seq (blk_if2 L trivial ht_ ?_ ?_)
    · have hr_ := ((ev_tup (f := (fun y => T2.mk y.1 y.2.1)) (ea_cons (ev_int (i := 0)) (ea_cons (ev_int (i := 1)) ea_nil)) (fun _ => rfl) (fun _ => by show 2 ≤ 100000; decide)) : EvX K (W0 E) [some (.im (toD curve_)), some (.im (toD point_)), none, none, none] _ _)
      exact blk_ret L trivial hr_
    · refine blk_nil ?_
      try refine Blk.nx ?_
      have hs_ := ((ev_fld (g := fun (x : O_EdwardsCurve) => x.f_prime) (c := "EdwardsCurve") (ks := ["prime", "a", "d"]) (j := 0) (ev_var (i := 0) (x := curve_) rfl) T.cl_EdwardsCurve T.nf_EdwardsCurve_prime (by decide +kernel) (fun _ => ⟨_, rfl, rfl⟩)) : EvX K (W0 E) [some (.im (toD curve_)), some (.im (toD point_)), none, none, none] _ _)
      refine blk_seq (blk_set (i := 2) L trivial hs_ fun p_ => ?_)
      show Blk _ _ _ _ _ [some (.im (toD curve_)), some (.im (toD point_)), some (.im (toD p_)), none, none] _
      try refine Blk.nx ?_
      have hs_ := ((ev_call (f := (fun (p : O_EdwardsCurve × Unit) => m_montgomery_numbers p.1)) (ea_cons (ev_var (i := 0) (x := curve_) rfl) ea_nil)) : EvX K (W0 E) [some (.im (toD curve_)), some (.im (toD point_)), some (.im (toD p_)), none, none] _ _)
      refine blk_seq (blk_asg L trivial hs_ (fun _ => (gx_tup (gxs_cons gx_name (gxs_cons gx_name gxs_nil)) rfl)) fun u777 => ?_)
      show Blk _ _ _ _ _ [some (.im (toD curve_)), some (.im (toD point_)), some (.im (toD p_)), some (.im (toD u777.a)), some (.im (toD u777.b))] ((fun (a_ : Int) (b_ : Int) => _) u777.a u777.b)
      generalize u777.a = a_
      generalize u777.b = b_
      show Blk _ _ _ _ _ [some (.im (toD curve_)), some (.im (toD point_)), some (.im (toD p_)), some (.im (toD a_)), some (.im (toD b_))] _
      try refine Blk.nx ?_
      have hr_ := ((ev_call (f := (fun (p : O_EdwardsCurve × D × Unit) => m_from_montgomery p.1 p.2.1)) (ea_cons (ev_var (i := 0) (x := curve_) rfl) (ea_cons (ev_as (ev_tup (f := (fun y => T2.mk y.1 y.2.1)) (ea_cons (ev_op (opx_I (C := (fun _ j => 0 < j)) (g := fun i j => i % j)) mild_need (ev_op (opx_I0 (g := fun i j => i - j)) mild_ok (ev_op (opx_I (C := CMulX) (g := fun i j => i * j)) mild_need (ev_var (i := 4) (x := b_) rfl) (ev_cast (f := D.asInt) asInt_ok asInt_x (ev_op opx_ixT (fun x y => idx_mild x.xs y) (ev_cast (f := D.asTu) asTu_ok asTu_x (ev_var (i := 1) (x := point_) rfl)) (ev_int (i := 0))))) (ev_op (opx_I (C := CMulX) (g := fun i j => i * j)) mild_need (ev_var (i := 3) (x := a_) rfl) (ev_call (f := (fun (p : Int × Int × Unit) => m_inverse p.1 p.2.1)) (ea_cons (ev_int (i := 3)) (ea_cons (ev_var (i := 2) (x := p_) rfl) ea_nil))))) (ev_var (i := 2) (x := p_) rfl)) (ea_cons (ev_op (opx_I (C := (fun _ j => 0 < j)) (g := fun i j => i % j)) mild_need (ev_op (opx_I (C := CMulX) (g := fun i j => i * j)) mild_need (ev_var (i := 4) (x := b_) rfl) (ev_cast (f := D.asInt) asInt_ok asInt_x (ev_op opx_ixT (fun x y => idx_mild x.xs y) (ev_cast (f := D.asTu) asTu_ok asTu_x (ev_var (i := 1) (x := point_) rfl)) (ev_int (i := 1))))) (ev_var (i := 2) (x := p_) rfl)) ea_nil)) (fun _ => rfl) (fun _ => by show 2 ≤ 100000; decide)) toD (fun _ => rfl) rfl) ea_nil))) : EvX K (W0 E) [some (.im (toD curve_)), some (.im (toD point_)), some (.im (toD p_)), some (.im (toD a_)), some (.im (toD b_))] _ _)
      exact blk_ret L trivial hr_
noncomputable def m_EdwardsCurve_init (prime_ : Int) (a_ : Int) (d_ : Int) : Res O_EdwardsCurve :=
  ((((Res.ok prime_)).bind fun (t809 : Int) => ((Res.ok (3 : Int))).bind fun (t810 : Int) => Res.ok (decide (t809 < t810))).bind fun b815 => cond b815 (Res.ok true) ((((Res.ok prime_)).bind fun (t811 : Int) => ((Res.ok (2 : Int))).bind fun (t812 : Int) => Res.ok (t811 % t812)).bind fun (t813 : Int) => ((Res.ok (0 : Int))).bind fun (t814 : Int) => Res.ok (decide (t813 = t814)))).bind fun b => cond b   (Res.exc "OutOfRange")   ((((((Res.ok a_)).bind fun a817 => (((Res.ok prime_)).bind fun a819 => (Res.ok ()).bind fun a820 => Res.ok (a819, a820)).bind fun a818 => Res.ok (a817, a818)).bind fun p816 => m_square_class p816.1 p816.2.1).bind fun (t821 : Int) => ((Res.ok (1 : Int))).bind fun (t822 : Int) => Res.ok (!decide (t821 = t822))).bind fun b => cond b   (Res.exc "Refused")   ((((((Res.ok d_)).bind fun a824 => (((Res.ok prime_)).bind fun a826 => (Res.ok ()).bind fun a827 => Res.ok (a826, a827)).bind fun a825 => Res.ok (a824, a825)).bind fun p823 => m_square_class p823.1 p823.2.1).bind fun (t829 : Int) => (((Res.ok (1 : Int))).bind fun (t828 : Int) => Res.ok (-t828)).bind fun (t830 : Int) => Res.ok (!decide (t829 = t830))).bind fun b => cond b   (Res.exc "Refused")   (((Res.ok prime_)).bind fun (sf_prime : Int) =>   (((Res.ok a_)).bind fun (t831 : Int) => ((Res.ok prime_)).bind fun (t832 : Int) => Res.need (0 < t832) (Res.ok (t831 % t832))).bind fun (sf_a : Int) =>   (((Res.ok d_)).bind fun (t833 : Int) => ((Res.ok prime_)).bind fun (t834 : Int) => Res.need (0 < t834) (Res.ok (t833 % t834))).bind fun (sf_d : Int) =>   Res.ok (O_EdwardsCurve.mk sf_prime sf_a sf_d))))
theorem ok_EdwardsCurve_init {P : Program} {w : World} {K : PySem.W.Frag} {mg : Str → Option Value} {base : Heap} (T : Facts K mg) {fd : FuncData} (F : FnP K "__init__" "EdwardsCurve.__init__" s_EdwardsCurve_init (He.ma K (He.ga K "EdwardsCurve") "__init__") fd) :
    FnOk P w K mg base (L2.CX P w) 3 (He.ma K (He.ga K "EdwardsCurve") "__init__") fd ["self", "prime", "a", "d"] (spI K "EdwardsCurve" (fun (p : Int × Int × Int × Unit) => m_EdwardsCurve_init p.1 p.2.1 p.2.2.1)) := by
  obtain ⟨fd_square_class, F_square_class⟩ := T.d_square_class
  have G_square_class := ok_square_class (P := P) (w := w) (base := base) T F_square_class
  have b_square_class : Binds K fd_square_class ["a", "prime"] [] := F_square_class.bindsN fun _ _ _ _ _ _ us hl => match us, hl with | [_, _], _ => rfl
  refine fn_okI (c := "EdwardsCurve") F sc_EdwardsCurve_init (fun y => rfl) (fun cdv A outer s H E hr => ?_)
  refine ⟨_, (pss_cons (ps_if (PW.pt (pw_or (pt_cmpR op_lt (pv 1) pe_int (nomark _)) (pw_or1 (pt_cmpR op_eq (pe_op op_mod (pv 1) pe_int) pe_int (nomark _))))) (pss_one (ps_raise rfl (takes_of rfl rfl rfl rfl) (pmk_own PySem.F.excBase_ValueError T.x_OutOfRange T.g_OutOfRange T.k_OutOfRange (raises_own T.b_OutOfRange T.t_OutOfRange) rfl))) pss_nil) (pss_cons (ps_if (pt_cmpR op_ne (pe_callS G_square_class (hr.mono (by decide)) rfl T.g_square_class F_square_class.kp b_square_class (fun σ => passAt (takes_of rfl rfl rfl rfl) σ) (pa_cons (pv 2) (pa_cons (pv 1) pa_nil))) pe_int (nomark _)) (pss_one (ps_raise rfl (takes_of rfl rfl rfl rfl) (pmk_own PySem.F.excBase_ValueError T.x_Refused T.g_Refused T.k_Refused (raises_own T.b_Refused T.t_Refused) rfl))) pss_nil) (pss_cons (ps_if (pt_cmpR op_ne (pe_callS G_square_class (hr.mono (by decide)) rfl T.g_square_class F_square_class.kp b_square_class (fun σ => passAt (takes_of rfl rfl rfl rfl) σ) (pa_cons (pv 3) (pa_cons (pv 1) pa_nil))) (pe_un un_neg pe_int) (nomark _)) (pss_one (ps_raise rfl (takes_of rfl rfl rfl rfl) (pmk_own PySem.F.excBase_ValueError T.x_Refused T.g_Refused T.k_Refused (raises_own T.b_Refused T.t_Refused) rfl))) pss_nil) (pss_cons (ps_fld (pv 0) (pv 1) rfl) (pss_cons (ps_fld (pv 0) (pe_op op_mod (pv 2) (pv 1)) rfl) (pss_one (ps_fld (pv 0) (pe_op op_mod (pv 3) (pv 1)) rfl))))))), ?_⟩
  rintro ⟨prime_, a_, d_, ⟨⟩⟩ p_ F0 H0 Q KP L
  show Blk K F0 H0 KP _ [some (.oi (some p_) "EdwardsCurve" [] []), some (.im (toD prime_)), some (.im (toD a_)), some (.im (toD d_))] (m_EdwardsCurve_init prime_ a_ d_)
  unfold m_EdwardsCurve_init
  have ht_ := ((et_or (et_test (ev_op (opx_B0 (g := fun i j => decide (i < j))) mild_ok (ev_var (i := 1) (x := prime_) rfl) (ev_int (i := 3)))) (et_test (ev_op opx_eqI mild_ok (ev_opI (C := (fun _ j => 0 < j)) (g := fun i j => i % j) (fun x y _ h => by cases h; (show (0 : Int) < _; decide)) (ev_var (i := 1) (x := prime_) rfl) (ev_int (i := 2))) (ev_int (i := 0))))) : EvT K (W0 E) [some (.oi (some p_) "EdwardsCurve" [] []), some (.im (toD prime_)), some (.im (toD a_)), some (.im (toD d_))] _ _)
  refine blk_seq (blk_if2 L trivial ht_ ?_ ?_)
  · exact blk_raise L trivial
  · refine blk_nil ?_
    try refine Blk.nx ?_
    have ht_ := ((et_test (ev_op opx_neI mild_ok (ev_call (f := (fun (p : Int × Int × Unit) => m_square_class p.1 p.2.1)) (ea_cons (ev_var (i := 2) (x := a_) rfl) (ea_cons (ev_var (i := 1) (x := prime_) rfl) ea_nil))) (ev_int (i := 1)))) : EvT K (W0 E) [some (.oi (some p_) "EdwardsCurve" [] []), some (.im (toD prime_)), some (.im (toD a_)), some (.im (toD d_))] _ _)
    refine blk_seq (blk_if2 L trivial ht_ ?_ ?_)
    · exact blk_raise L trivial
    · refine blk_nil ?_
      try refine Blk.nx ?_
      have ht_ := ((et_test (ev_op opx_neI mild_ok (ev_call (f := (fun (p : Int × Int × Unit) => m_square_class p.1 p.2.1)) (ea_cons (ev_var (i := 3) (x := d_) rfl) (ea_cons (ev_var (i := 1) (x := prime_) rfl) ea_nil))) (ev_un (g := fun i => -i) (ev_int (i := 1))))) : EvT K (W0 E) [some (.oi (some p_) "EdwardsCurve" [] []), some (.im (toD prime_)), some (.im (toD a_)), some (.im (toD d_))] _ _)
      refine blk_seq (blk_if2 L trivial ht_ ?_ ?_)
      · exact blk_raise L trivial
      · refine blk_nil ?_
        try refine Blk.nx ?_
        have hs_ := ((ev_var (i := 1) (x := prime_) rfl) : EvX K (W0 E) [some (.oi (some p_) "EdwardsCurve" [] []), some (.im (toD prime_)), some (.im (toD a_)), some (.im (toD d_))] _ _)
        refine blk_seq (blk_fldN (i := 0) L trivial hs_ rfl T.cl_EdwardsCurve T.nf_EdwardsCurve_prime (by decide +kernel) (by decide) fun sf_prime => ?_)
        show Blk _ _ _ _ _ [some (.oi (some p_) "EdwardsCurve" ["prime"] [toD sf_prime]), some (.im (toD prime_)), some (.im (toD a_)), some (.im (toD d_))] _
        try refine Blk.nx ?_
        have hs_ := ((ev_op (opx_I (C := (fun _ j => 0 < j)) (g := fun i j => i % j)) mild_need (ev_var (i := 2) (x := a_) rfl) (ev_var (i := 1) (x := prime_) rfl)) : EvX K (W0 E) [some (.oi (some p_) "EdwardsCurve" ["prime"] [toD sf_prime]), some (.im (toD prime_)), some (.im (toD a_)), some (.im (toD d_))] _ _)
        refine blk_seq (blk_fldN (i := 0) L trivial hs_ rfl T.cl_EdwardsCurve T.nf_EdwardsCurve_a (by decide +kernel) (by decide) fun sf_a => ?_)
        show Blk _ _ _ _ _ [some (.oi (some p_) "EdwardsCurve" ["prime", "a"] [toD sf_prime, toD sf_a]), some (.im (toD prime_)), some (.im (toD a_)), some (.im (toD d_))] _
        try refine Blk.nx ?_
        have hs_ := ((ev_op (opx_I (C := (fun _ j => 0 < j)) (g := fun i j => i % j)) mild_need (ev_var (i := 3) (x := d_) rfl) (ev_var (i := 1) (x := prime_) rfl)) : EvX K (W0 E) [some (.oi (some p_) "EdwardsCurve" ["prime", "a"] [toD sf_prime, toD sf_a]), some (.im (toD prime_)), some (.im (toD a_)), some (.im (toD d_))] _ _)
        refine blk_fldN (i := 0) L trivial hs_ rfl T.cl_EdwardsCurve T.nf_EdwardsCurve_d (by decide +kernel) (by decide) fun sf_d => ?_
        show Blk _ _ _ _ _ [some (.oi (some p_) "EdwardsCurve" ["prime", "a", "d"] [toD sf_prime, toD sf_a, toD sf_d]), some (.im (toD prime_)), some (.im (toD a_)), some (.im (toD d_))] _
        try refine Blk.nx ?_
        exact blk_finI (i := 0) L rfl rfl
noncomputable def m_EdwardsCurve_add (self_ : O_EdwardsCurve) (first_ : (T2 Int Int)) (second_ : (T2 Int Int)) : Res (T2 Int Int) :=
  ((Res.ok first_)).bind fun (u835 : (T2 Int Int)) =>   (fun (x1_ : Int) (y1_ : Int) => ((Res.ok second_)).bind fun (u836 : (T2 Int Int)) =>   (fun (x2_ : Int) (y2_ : Int) => (((((((Res.ok self_)).bind fun (t837 : O_EdwardsCurve) => Res.ok t837.f_d).bind fun (t838 : Int) => ((Res.ok x1_)).bind fun (t839 : Int) => Res.need (CMulX t838 t839) (Res.ok (t838 * t839))).bind fun (t840 : Int) => ((Res.ok x2_)).bind fun (t841 : Int) => Res.need (CMulX t840 t841) (Res.ok (t840 * t841))).bind fun (t842 : Int) => ((Res.ok y1_)).bind fun (t843 : Int) => Res.need (CMulX t842 t843) (Res.ok (t842 * t843))).bind fun (t844 : Int) => ((Res.ok y2_)).bind fun (t845 : Int) => Res.need (CMulX t844 t845) (Res.ok (t844 * t845))).bind fun (t_ : Int) =>   ((((((Res.ok x1_)).bind fun (t846 : Int) => ((Res.ok y2_)).bind fun (t847 : Int) => Res.need (CMulX t846 t847) (Res.ok (t846 * t847))).bind fun (t850 : Int) => (((Res.ok y1_)).bind fun (t848 : Int) => ((Res.ok x2_)).bind fun (t849 : Int) => Res.need (CMulX t848 t849) (Res.ok (t848 * t849))).bind fun (t851 : Int) => Res.ok (t850 + t851)).bind fun (t860 : Int) => (((((Res.ok (1 : Int))).bind fun (t852 : Int) => ((Res.ok t_)).bind fun (t853 : Int) => Res.ok (t852 + t853)).bind fun a856 => ((((Res.ok self_)).bind fun (t854 : O_EdwardsCurve) => Res.ok t854.f_prime).bind fun a858 => (Res.ok ()).bind fun a859 => Res.ok (a858, a859)).bind fun a857 => Res.ok (a856, a857)).bind fun p855 => m_inverse p855.1 p855.2.1).bind fun (t861 : Int) => Res.need (CMulX t860 t861) (Res.ok (t860 * t861))).bind fun (t863 : Int) => (((Res.ok self_)).bind fun (t862 : O_EdwardsCurve) => Res.ok t862.f_prime).bind fun (t864 : Int) => Res.need (0 < t864) (Res.ok (t863 % t864))).bind fun (x3_ : Int) =>   ((((((Res.ok y1_)).bind fun (t865 : Int) => ((Res.ok y2_)).bind fun (t866 : Int) => Res.need (CMulX t865 t866) (Res.ok (t865 * t866))).bind fun (t872 : Int) => (((((Res.ok self_)).bind fun (t867 : O_EdwardsCurve) => Res.ok t867.f_a).bind fun (t868 : Int) => ((Res.ok x1_)).bind fun (t869 : Int) => Res.need (CMulX t868 t869) (Res.ok (t868 * t869))).bind fun (t870 : Int) => ((Res.ok x2_)).bind fun (t871 : Int) => Res.need (CMulX t870 t871) (Res.ok (t870 * t871))).bind fun (t873 : Int) => Res.ok (t872 - t873)).bind fun (t882 : Int) => (((((Res.ok (1 : Int))).bind fun (t874 : Int) => ((Res.ok t_)).bind fun (t875 : Int) => Res.ok (t874 - t875)).bind fun a878 => ((((Res.ok self_)).bind fun (t876 : O_EdwardsCurve) => Res.ok t876.f_prime).bind fun a880 => (Res.ok ()).bind fun a881 => Res.ok (a880, a881)).bind fun a879 => Res.ok (a878, a879)).bind fun p877 => m_inverse p877.1 p877.2.1).bind fun (t883 : Int) => Res.need (CMulX t882 t883) (Res.ok (t882 * t883))).bind fun (t885 : Int) => (((Res.ok self_)).bind fun (t884 : O_EdwardsCurve) => Res.ok t884.f_prime).bind fun (t886 : Int) => Res.need (0 < t886) (Res.ok (t885 % t886))).bind fun (y3_ : Int) =>   (((Res.ok x3_)).bind fun a888 => (((Res.ok y3_)).bind fun a890 => (Res.ok ()).bind fun a891 => Res.ok (a890, a891)).bind fun a889 => Res.ok (a888, a889)).bind fun p887 => Res.ok (T2.mk p887.1 p887.2.1)) u836.a u836.b) u835.a u835.b
theorem ok_EdwardsCurve_add {P : Program} {w : World} {K : PySem.W.Frag} {mg : Str → Option Value} {base : Heap} (T : Facts K mg) {fd : FuncData} (F : FnP K "add" "EdwardsCurve.add" s_EdwardsCurve_add (He.ma K (He.ga K "EdwardsCurve") "add") fd) :
    FnOk P w K mg base (L2.CX P w) 3 (He.ma K (He.ga K "EdwardsCurve") "add") fd ["self", "first", "second"] (spM K (fun (p : O_EdwardsCurve × (T2 Int Int) × (T2 Int Int) × Unit) => m_EdwardsCurve_add p.1 p.2.1 p.2.2.1)) := by
  obtain ⟨fd_inverse, F_inverse⟩ := T.d_inverse
  have G_inverse := ok_inverse (P := P) (w := w) (base := base) T F_inverse
  have b_inverse : Binds K fd_inverse ["a", "modulus"] [] := F_inverse.bindsN fun _ _ _ _ _ _ us hl => match us, hl with | [_, _], _ => rfl
  refine fn_ok F sc_EdwardsCurve_add (fun y => rfl) (fun cdv A outer s H E hr => ?_)
  refine ⟨_, (pss_cons (ps_asg (pv 1) (pg_tup rfl (pgs_cons (pg_name (i := 3) sc_EdwardsCurve_add.nd rfl (Or.inl rfl)) (pgs_cons (pg_name (i := 4) sc_EdwardsCurve_add.nd rfl (Or.inl rfl)) pgs_nil)))) (pss_cons (ps_asg (pv 2) (pg_tup rfl (pgs_cons (pg_name (i := 5) sc_EdwardsCurve_add.nd rfl (Or.inl rfl)) (pgs_cons (pg_name (i := 6) sc_EdwardsCurve_add.nd rfl (Or.inl rfl)) pgs_nil)))) (pss_cons (ps_set (i := 7) sc_EdwardsCurve_add.nd rfl (Or.inl rfl) (pe_op op_mulX (pe_op op_mulX (pe_op op_mulX (pe_op op_mulX (pe_fld (pv 0) rfl) (pv 3)) (pv 5)) (pv 4)) (pv 6))) (pss_cons (ps_set (i := 8) sc_EdwardsCurve_add.nd rfl (Or.inl rfl) (pe_op op_mod (pe_op op_mulX (pe_op op_add (pe_op op_mulX (pv 3) (pv 6)) (pe_op op_mulX (pv 4) (pv 5))) (pe_callS G_inverse (hr.mono (by decide)) rfl T.g_inverse F_inverse.kp b_inverse (fun σ => passAt (takes_of rfl rfl rfl rfl) σ) (pa_cons (pe_op op_add pe_int (pv 7)) (pa_cons (pe_fld (pv 0) rfl) pa_nil)))) (pe_fld (pv 0) rfl))) (pss_cons (ps_set (i := 9) sc_EdwardsCurve_add.nd rfl (Or.inl rfl) (pe_op op_mod (pe_op op_mulX (pe_op op_sub (pe_op op_mulX (pv 4) (pv 6)) (pe_op op_mulX (pe_op op_mulX (pe_fld (pv 0) rfl) (pv 3)) (pv 5))) (pe_callS G_inverse (hr.mono (by decide)) rfl T.g_inverse F_inverse.kp b_inverse (fun σ => passAt (takes_of rfl rfl rfl rfl) σ) (pa_cons (pe_op op_sub pe_int (pv 7)) (pa_cons (pe_fld (pv 0) rfl) pa_nil)))) (pe_fld (pv 0) rfl))) (pss_one (ps_ret (pe_tup (pa_cons (pv 8) (pa_cons (pv 9) pa_nil)))))))))), ?_⟩
  rintro ⟨self_, first_, second_, ⟨⟩⟩ F0 H0 Q KP L
  show Blk K F0 H0 KP _ [some (.im (toD self_)), some (.im (toD first_)), some (.im (toD second_)), none, none, none, none, none, none, none] (m_EdwardsCurve_add self_ first_ second_)
  unfold m_EdwardsCurve_add
  have hs_ := ((ev_var (i := 1) (x := first_) rfl) : EvX K (W0 E) [some (.im (toD self_)), some (.im (toD first_)), some (.im (toD second_)), none, none, none, none, none, none, none] _ _)
  refine blk_seq (blk_asg L trivial hs_ (fun _ => (gx_tup (gxs_cons gx_name (gxs_cons gx_name gxs_nil)) rfl)) fun u835 => ?_)
  show Blk _ _ _ _ _ [some (.im (toD self_)), some (.im (toD first_)), some (.im (toD second_)), some (.im (toD u835.a)), some (.im (toD u835.b)), none, none, none, none, none] ((fun (x1_ : Int) (y1_ : Int) => _) u835.a u835.b)
  generalize u835.a = x1_
  generalize u835.b = y1_
  show Blk _ _ _ _ _ [some (.im (toD self_)), some (.im (toD first_)), some (.im (toD second_)), some (.im (toD x1_)), some (.im (toD y1_)), none, none, none, none, none] _
  try refine Blk.nx ?_
  have hs_ := ((ev_var (i := 2) (x := second_) rfl) : EvX K (W0 E) [some (.im (toD self_)), some (.im (toD first_)), some (.im (toD second_)), some (.im (toD x1_)), some (.im (toD y1_)), none, none, none, none, none] _ _)
  refine blk_seq (blk_asg L trivial hs_ (fun _ => (gx_tup (gxs_cons gx_name (gxs_cons gx_name gxs_nil)) rfl)) fun u836 => ?_)
  show Blk _ _ _ _ _ [some (.im (toD self_)), some (.im (toD first_)), some (.im (toD second_)), some (.im (toD x1_)), some (.im (toD y1_)), some (.im (toD u836.a)), some (.im (toD u836.b)), none, none, none] ((fun (x2_ : Int) (y2_ : Int) => _) u836.a u836.b)
  generalize u836.a = x2_
  generalize u836.b = y2_
  show Blk _ _ _ _ _ [some (.im (toD self_)), some (.im (toD first_)), some (.im (toD second_)), some (.im (toD x1_)), some (.im (toD y1_)), some (.im (toD x2_)), some (.im (toD y2_)), none, none, none] _
  try refine Blk.nx ?_
  have hs_ := ((ev_op (opx_I (C := CMulX) (g := fun i j => i * j)) mild_need (ev_op (opx_I (C := CMulX) (g := fun i j => i * j)) mild_need (ev_op (opx_I (C := CMulX) (g := fun i j => i * j)) mild_need (ev_op (opx_I (C := CMulX) (g := fun i j => i * j)) mild_need (ev_fld (g := fun (x : O_EdwardsCurve) => x.f_d) (c := "EdwardsCurve") (ks := ["prime", "a", "d"]) (j := 2) (ev_var (i := 0) (x := self_) rfl) T.cl_EdwardsCurve T.nf_EdwardsCurve_d (by decide +kernel) (fun _ => ⟨_, rfl, rfl⟩)) (ev_var (i := 3) (x := x1_) rfl)) (ev_var (i := 5) (x := x2_) rfl)) (ev_var (i := 4) (x := y1_) rfl)) (ev_var (i := 6) (x := y2_) rfl)) : EvX K (W0 E) [some (.im (toD self_)), some (.im (toD first_)), some (.im (toD second_)), some (.im (toD x1_)), some (.im (toD y1_)), some (.im (toD x2_)), some (.im (toD y2_)), none, none, none] _ _)
  refine blk_seq (blk_set (i := 7) L trivial hs_ fun t_ => ?_)
  show Blk _ _ _ _ _ [some (.im (toD self_)), some (.im (toD first_)), some (.im (toD second_)), some (.im (toD x1_)), some (.im (toD y1_)), some (.im (toD x2_)), some (.im (toD y2_)), some (.im (toD t_)), none, none] _
  try refine Blk.nx ?_
  have hs_ := ((ev_op (opx_I (C := (fun _ j => 0 < j)) (g := fun i j => i % j)) mild_need (ev_op (opx_I (C := CMulX) (g := fun i j => i * j)) mild_need (ev_op (opx_I0 (g := fun i j => i + j)) mild_ok (ev_op (opx_I (C := CMulX) (g := fun i j => i * j)) mild_need (ev_var (i := 3) (x := x1_) rfl) (ev_var (i := 6) (x := y2_) rfl)) (ev_op (opx_I (C := CMulX) (g := fun i j => i * j)) mild_need (ev_var (i := 4) (x := y1_) rfl) (ev_var (i := 5) (x := x2_) rfl))) (ev_call (f := (fun (p : Int × Int × Unit) => m_inverse p.1 p.2.1)) (ea_cons (ev_op (opx_I0 (g := fun i j => i + j)) mild_ok (ev_int (i := 1)) (ev_var (i := 7) (x := t_) rfl)) (ea_cons (ev_fld (g := fun (x : O_EdwardsCurve) => x.f_prime) (c := "EdwardsCurve") (ks := ["prime", "a", "d"]) (j := 0) (ev_var (i := 0) (x := self_) rfl) T.cl_EdwardsCurve T.nf_EdwardsCurve_prime (by decide +kernel) (fun _ => ⟨_, rfl, rfl⟩)) ea_nil)))) (ev_fld (g := fun (x : O_EdwardsCurve) => x.f_prime) (c := "EdwardsCurve") (ks := ["prime", "a", "d"]) (j := 0) (ev_var (i := 0) (x := self_) rfl) T.cl_EdwardsCurve T.nf_EdwardsCurve_prime (by decide +kernel) (fun _ => ⟨_, rfl, rfl⟩))) : EvX K (W0 E) [some (.im (toD self_)), some (.im (toD first_)), some (.im (toD second_)), some (.im (toD x1_)), some (.im (toD y1_)), some (.im (toD x2_)), some (.im (toD y2_)), some (.im (toD t_)), none, none] _ _)
  refine blk_seq (blk_set (i := 8) L trivial hs_ fun x3_ => ?_)
  show Blk _ _ _ _ _ [some (.im (toD self_)), some (.im (toD first_)), some (.im (toD second_)), some (.im (toD x1_)), some (.im (toD y1_)), some (.im (toD x2_)), some (.im (toD y2_)), some (.im (toD t_)), some (.im (toD x3_)), none] _
  try refine Blk.nx ?_
  have hs_ := ((ev_op (opx_I (C := (fun _ j => 0 < j)) (g := fun i j => i % j)) mild_need (ev_op (opx_I (C := CMulX) (g := fun i j => i * j)) mild_need (ev_op (opx_I0 (g := fun i j => i - j)) mild_ok (ev_op (opx_I (C := CMulX) (g := fun i j => i * j)) mild_need (ev_var (i := 4) (x := y1_) rfl) (ev_var (i := 6) (x := y2_) rfl)) (ev_op (opx_I (C := CMulX) (g := fun i j => i * j)) mild_need (ev_op (opx_I (C := CMulX) (g := fun i j => i * j)) mild_need (ev_fld (g := fun (x : O_EdwardsCurve) => x.f_a) (c := "EdwardsCurve") (ks := ["prime", "a", "d"]) (j := 1) (ev_var (i := 0) (x := self_) rfl) T.cl_EdwardsCurve T.nf_EdwardsCurve_a (by decide +kernel) (fun _ => ⟨_, rfl, rfl⟩)) (ev_var (i := 3) (x := x1_) rfl)) (ev_var (i := 5) (x := x2_) rfl))) (ev_call (f := (fun (p : Int × Int × Unit) => m_inverse p.1 p.2.1)) (ea_cons (ev_op (opx_I0 (g := fun i j => i - j)) mild_ok (ev_int (i := 1)) (ev_var (i := 7) (x := t_) rfl)) (ea_cons (ev_fld (g := fun (x : O_EdwardsCurve) => x.f_prime) (c := "EdwardsCurve") (ks := ["prime", "a", "d"]) (j := 0) (ev_var (i := 0) (x := self_) rfl) T.cl_EdwardsCurve T.nf_EdwardsCurve_prime (by decide +kernel) (fun _ => ⟨_, rfl, rfl⟩)) ea_nil)))) (ev_fld (g := fun (x : O_EdwardsCurve) => x.f_prime) (c := "EdwardsCurve") (ks := ["prime", "a", "d"]) (j := 0) (ev_var (i := 0) (x := self_) rfl) T.cl_EdwardsCurve T.nf_EdwardsCurve_prime (by decide +kernel) (fun _ => ⟨_, rfl, rfl⟩))) : EvX K (W0 E) [some (.im (toD self_)), some (.im (toD first_)), some (.im (toD second_)), some (.im (toD x1_)), some (.im (toD y1_)), some (.im (toD x2_)), some (.im (toD y2_)), some (.im (toD t_)), some (.im (toD x3_)), none] _ _)
  refine blk_seq (blk_set (i := 9) L trivial hs_ fun y3_ => ?_)
  show Blk _ _ _ _ _ [some (.im (toD self_)), some (.im (toD first_)), some (.im (toD second_)), some (.im (toD x1_)), some (.im (toD y1_)), some (.im (toD x2_)), some (.im (toD y2_)), some (.im (toD t_)), some (.im (toD x3_)), some (.im (toD y3_))] _
  try refine Blk.nx ?_
  have hr_ := ((ev_tup (f := (fun y => T2.mk y.1 y.2.1)) (ea_cons (ev_var (i := 8) (x := x3_) rfl) (ea_cons (ev_var (i := 9) (x := y3_) rfl) ea_nil)) (fun _ => rfl) (fun _ => by show 2 ≤ 100000; decide)) : EvX K (W0 E) [some (.im (toD self_)), some (.im (toD first_)), some (.im (toD second_)), some (.im (toD x1_)), some (.im (toD y1_)), some (.im (toD x2_)), some (.im (toD y2_)), some (.im (toD t_)), some (.im (toD x3_)), some (.im (toD y3_))] _ _)
  exact blk_ret L trivial hr_
noncomputable def m_EdwardsCurve_lift (self_ : O_EdwardsCurve) (y_ : Int) (odd_ : Bool) : Res (Option (T2 Int Int)) :=
  ((((((Res.ok y_)).bind fun (x : Int) => Res.ok (toD x)).bind fun a894 => ((((Res.ok self_)).bind fun (t892 : O_EdwardsCurve) => Res.ok t892.f_prime).bind fun a896 => (Res.ok ()).bind fun a897 => Res.ok (a896, a897)).bind fun a895 => Res.ok (a894, a895)).bind fun p893 => m_is_residue p893.1 p893.2.1).bind fun (t898 : Bool) => Res.ok (!t898)).bind fun b => cond b   ((Res.ok (none : (Option (T2 Int Int)))))   ((((((Res.ok self_)).bind fun (t899 : O_EdwardsCurve) => Res.ok t899.f_d).bind fun (t902 : Int) => (((Res.ok y_)).bind fun (t900 : Int) => ((Res.ok (2 : Int))).bind fun (t901 : Int) => Res.need (CPowX t900 t901) (Res.ok (t900 ^ t901.toNat))).bind fun (t903 : Int) => Res.need (CMulX t902 t903) (Res.ok (t902 * t903))).bind fun (t905 : Int) => (((Res.ok self_)).bind fun (t904 : O_EdwardsCurve) => Res.ok t904.f_a).bind fun (t906 : Int) => Res.ok (t905 - t906)).bind fun (divisor_ : Int) =>   (((((Res.ok y_)).bind fun (t907 : Int) => ((Res.ok (2 : Int))).bind fun (t908 : Int) => Res.need (CPowX t907 t908) (Res.ok (t907 ^ t908.toNat))).bind fun (t909 : Int) => ((Res.ok (1 : Int))).bind fun (t910 : Int) => Res.ok (t909 - t910)).bind fun (t917 : Int) => ((((Res.ok divisor_)).bind fun a913 => ((((Res.ok self_)).bind fun (t911 : O_EdwardsCurve) => Res.ok t911.f_prime).bind fun a915 => (Res.ok ()).bind fun a916 => Res.ok (a915, a916)).bind fun a914 => Res.ok (a913, a914)).bind fun p912 => m_inverse p912.1 p912.2.1).bind fun (t918 : Int) => Res.need (CMulX t917 t918) (Res.ok (t917 * t918))).bind fun (x_square_ : Int) =>   ((((Res.ok x_square_)).bind fun a921 => ((((Res.ok self_)).bind fun (t919 : O_EdwardsCurve) => Res.ok t919.f_prime).bind fun a923 => (((Res.ok odd_)).bind fun a925 => (Res.ok ()).bind fun a926 => Res.ok (a925, a926)).bind fun a924 => Res.ok (a923, a924)).bind fun a922 => Res.ok (a921, a922)).bind fun p920 => m_root_with_parity p920.1 p920.2.1 p920.2.2.1).bind fun (x_ : (Option Int)) =>   (((Res.ok x_)).bind fun (t927 : (Option Int)) => ((Res.ok ())).bind fun (t928 : Unit) => Res.ok (toD t927).isNon).bind fun b934 => cond b934 ((Res.ok (none : (Option (T2 Int Int))))) ((((((Res.ok x_)).bind optGet).bind fun a930 => (((Res.ok y_)).bind fun a932 => (Res.ok ()).bind fun a933 => Res.ok (a932, a933)).bind fun a931 => Res.ok (a930, a931)).bind fun p929 => Res.ok (T2.mk p929.1 p929.2.1)).bind fun (x : (T2 Int Int)) => Res.ok (some x)))
theorem ok_EdwardsCurve_lift {P : Program} {w : World} {K : PySem.W.Frag} {mg : Str → Option Value} {base : Heap} (T : Facts K mg) {fd : FuncData} (F : FnP K "lift" "EdwardsCurve.lift" s_EdwardsCurve_lift (He.ma K (He.ga K "EdwardsCurve") "lift") fd) :
    FnOk P w K mg base (L2.CX P w) 7 (He.ma K (He.ga K "EdwardsCurve") "lift") fd ["self", "y", "odd"] (spM K (fun (p : O_EdwardsCurve × Int × Bool × Unit) => m_EdwardsCurve_lift p.1 p.2.1 p.2.2.1)) := by
  obtain ⟨fd_inverse, F_inverse⟩ := T.d_inverse
  have G_inverse := ok_inverse (P := P) (w := w) (base := base) T F_inverse
  have b_inverse : Binds K fd_inverse ["a", "modulus"] [] := F_inverse.bindsN fun _ _ _ _ _ _ us hl => match us, hl with | [_, _], _ => rfl
  obtain ⟨fd_is_residue, F_is_residue⟩ := T.d_is_residue
  have G_is_residue := ok_is_residue (P := P) (w := w) (base := base) T F_is_residue
  have b_is_residue : Binds K fd_is_residue ["value", "modulus"] [] := F_is_residue.bindsN fun _ _ _ _ _ _ us hl => match us, hl with | [_, _], _ => rfl
  obtain ⟨fd_root_with_parity, F_root_with_parity⟩ := T.d_root_with_parity
  have G_root_with_parity := ok_root_with_parity (P := P) (w := w) (base := base) T F_root_with_parity
  have b_root_with_parity : Binds K fd_root_with_parity ["a", "prime", "odd"] [] := F_root_with_parity.bindsN fun _ _ _ _ _ _ us hl => match us, hl with | [_, _, _], _ => rfl
  refine fn_ok F sc_EdwardsCurve_lift (fun y => rfl) (fun cdv A outer s H E hr => ?_)
  refine ⟨_, (pss_cons (ps_if (pt_not (pt_val (pe_callS G_is_residue (hr.mono (by decide)) rfl T.g_is_residue F_is_residue.kp b_is_residue (fun σ => passAt (takes_of rfl rfl rfl rfl) σ) (pa_cons (pv 1) (pa_cons (pe_fld (pv 0) rfl) pa_nil))))) (pss_one (ps_ret pe_non)) pss_nil) (pss_cons (ps_set (i := 3) sc_EdwardsCurve_lift.nd rfl (Or.inl rfl) (pe_op op_sub (pe_op op_mulX (pe_fld (pv 0) rfl) (pe_op op_powX (pv 1) pe_int)) (pe_fld (pv 0) rfl))) (pss_cons (ps_set (i := 4) sc_EdwardsCurve_lift.nd rfl (Or.inl rfl) (pe_op op_mulX (pe_op op_sub (pe_op op_powX (pv 1) pe_int) pe_int) (pe_callS G_inverse (hr.mono (by decide)) rfl T.g_inverse F_inverse.kp b_inverse (fun σ => passAt (takes_of rfl rfl rfl rfl) σ) (pa_cons (pv 3) (pa_cons (pe_fld (pv 0) rfl) pa_nil))))) (pss_cons (ps_set (i := 5) sc_EdwardsCurve_lift.nd rfl (Or.inl rfl) (pe_callS G_root_with_parity (hr.mono (by decide)) rfl T.g_root_with_parity F_root_with_parity.kp b_root_with_parity (fun σ => passAt (takes_of rfl rfl rfl rfl) σ) (pa_cons (pv 4) (pa_cons (pe_fld (pv 0) rfl) (pa_cons (pv 2) pa_nil))))) (pss_one (ps_ret (pe_ifExp (pt_cmpR op_isN (pv 5) pe_non (nomark _)) pe_non (pe_tup (pa_cons (pv 5) (pa_cons (pv 1) pa_nil)))))))))), ?_⟩
  rintro ⟨self_, y_, odd_, ⟨⟩⟩ F0 H0 Q KP L
  show Blk K F0 H0 KP _ [some (.im (toD self_)), some (.im (toD y_)), some (.im (toD odd_)), none, none, none] (m_EdwardsCurve_lift self_ y_ odd_)
  unfold m_EdwardsCurve_lift
  have ht_ := ((et_not (et_B (ev_call (f := (fun (p : D × Int × Unit) => m_is_residue p.1 p.2.1)) (ea_cons (ev_as (ev_var (i := 1) (x := y_) rfl) toD (fun _ => rfl) rfl) (ea_cons (ev_fld (g := fun (x : O_EdwardsCurve) => x.f_prime) (c := "EdwardsCurve") (ks := ["prime", "a", "d"]) (j := 0) (ev_var (i := 0) (x := self_) rfl) T.cl_EdwardsCurve T.nf_EdwardsCurve_prime (by decide +kernel) (fun _ => ⟨_, rfl, rfl⟩)) ea_nil))))) : EvT K (W0 E) [some (.im (toD self_)), some (.im (toD y_)), some (.im (toD odd_)), none, none, none] _ _)
  refine blk_seq (blk_if2 L trivial ht_ ?_ ?_)
  · have hr_ := ((ev_noneO (α := (T2 Int Int))) : EvX K (W0 E) [some (.im (toD self_)), some (.im (toD y_)), some (.im (toD odd_)), none, none, none] _ _)
    exact blk_ret L trivial hr_
  · refine blk_nil ?_
    try refine Blk.nx ?_
    have hs_ := ((ev_op (opx_I0 (g := fun i j => i - j)) mild_ok (ev_op (opx_I (C := CMulX) (g := fun i j => i * j)) mild_need (ev_fld (g := fun (x : O_EdwardsCurve) => x.f_d) (c := "EdwardsCurve") (ks := ["prime", "a", "d"]) (j := 2) (ev_var (i := 0) (x := self_) rfl) T.cl_EdwardsCurve T.nf_EdwardsCurve_d (by decide +kernel) (fun _ => ⟨_, rfl, rfl⟩)) (ev_op (opx_I (C := CPowX) (g := fun i j => i ^ j.toNat)) mild_need (ev_var (i := 1) (x := y_) rfl) (ev_int (i := 2)))) (ev_fld (g := fun (x : O_EdwardsCurve) => x.f_a) (c := "EdwardsCurve") (ks := ["prime", "a", "d"]) (j := 1) (ev_var (i := 0) (x := self_) rfl) T.cl_EdwardsCurve T.nf_EdwardsCurve_a (by decide +kernel) (fun _ => ⟨_, rfl, rfl⟩))) : EvX K (W0 E) [some (.im (toD self_)), some (.im (toD y_)), some (.im (toD odd_)), none, none, none] _ _)
    refine blk_seq (blk_set (i := 3) L trivial hs_ fun divisor_ => ?_)
    show Blk _ _ _ _ _ [some (.im (toD self_)), some (.im (toD y_)), some (.im (toD odd_)), some (.im (toD divisor_)), none, none] _
    try refine Blk.nx ?_
    have hs_ := ((ev_op (opx_I (C := CMulX) (g := fun i j => i * j)) mild_need (ev_op (opx_I0 (g := fun i j => i - j)) mild_ok (ev_op (opx_I (C := CPowX) (g := fun i j => i ^ j.toNat)) mild_need (ev_var (i := 1) (x := y_) rfl) (ev_int (i := 2))) (ev_int (i := 1))) (ev_call (f := (fun (p : Int × Int × Unit) => m_inverse p.1 p.2.1)) (ea_cons (ev_var (i := 3) (x := divisor_) rfl) (ea_cons (ev_fld (g := fun (x : O_EdwardsCurve) => x.f_prime) (c := "EdwardsCurve") (ks := ["prime", "a", "d"]) (j := 0) (ev_var (i := 0) (x := self_) rfl) T.cl_EdwardsCurve T.nf_EdwardsCurve_prime (by decide +kernel) (fun _ => ⟨_, rfl, rfl⟩)) ea_nil)))) : EvX K (W0 E) [some (.im (toD self_)), some (.im (toD y_)), some (.im (toD odd_)), some (.im (toD divisor_)), none, none] _ _)
    refine blk_seq (blk_set (i := 4) L trivial hs_ fun x_square_ => ?_)
    show Blk _ _ _ _ _ [some (.im (toD self_)), some (.im (toD y_)), some (.im (toD odd_)), some (.im (toD divisor_)), some (.im (toD x_square_)), none] _
    try refine Blk.nx ?_
    have hs_ := ((ev_call (f := (fun (p : Int × Int × Bool × Unit) => m_root_with_parity p.1 p.2.1 p.2.2.1)) (ea_cons (ev_var (i := 4) (x := x_square_) rfl) (ea_cons (ev_fld (g := fun (x : O_EdwardsCurve) => x.f_prime) (c := "EdwardsCurve") (ks := ["prime", "a", "d"]) (j := 0) (ev_var (i := 0) (x := self_) rfl) T.cl_EdwardsCurve T.nf_EdwardsCurve_prime (by decide +kernel) (fun _ => ⟨_, rfl, rfl⟩)) (ea_cons (ev_var (i := 2) (x := odd_) rfl) ea_nil)))) : EvX K (W0 E) [some (.im (toD self_)), some (.im (toD y_)), some (.im (toD odd_)), some (.im (toD divisor_)), some (.im (toD x_square_)), none] _ _)
    refine blk_seq (blk_set (i := 5) L trivial hs_ fun x_ => ?_)
    show Blk _ _ _ _ _ [some (.im (toD self_)), some (.im (toD y_)), some (.im (toD odd_)), some (.im (toD divisor_)), some (.im (toD x_square_)), some (.im (toD x_))] _
    try refine Blk.nx ?_
    have hr_ := ((ev_if (et_test (ev_op opx_isN mild_ok (ev_var (i := 5) (x := x_) rfl) ev_non)) (ev_noneO (α := (T2 Int Int))) (ev_as (ev_tup (f := (fun y => T2.mk y.1 y.2.1)) (ea_cons (ev_castG (f := optGet) optGet_ok optGet_x (ev_var (i := 5) (x := x_) rfl)) (ea_cons (ev_var (i := 1) (x := y_) rfl) ea_nil)) (fun _ => rfl) (fun _ => by show 2 ≤ 100000; decide)) some (fun _ => rfl) rfl)) : EvX K (W0 E) [some (.im (toD self_)), some (.im (toD y_)), some (.im (toD odd_)), some (.im (toD divisor_)), some (.im (toD x_square_)), some (.im (toD x_))] _ _)
    exact blk_ret L trivial hr_
noncomputable def m_u_law_cell (script_ : (Ro Int)) (k_ : Int) : Res Int :=
  (((Res.ok k_)).bind fun (t938 : Int) => ((((Res.ok script_)).bind fun a936 => (Res.ok ()).bind fun a937 => Res.ok (a936, a937)).bind fun p935 => Res.ok ((p935.1).xs.length : Int)).bind fun (t939 : Int) => Res.ok (decide (t938 < t939))).bind fun b => cond b   (((((Res.ok script_)).bind fun (t940 : (Ro Int)) => ((Res.ok k_)).bind fun (t941 : Int) => idx (t940).xs t941).bind fun a943 => (Res.ok ()).bind fun a944 => Res.ok (a943, a944)).bind fun p942 => Res.ok p942.1)   ((Res.ok (0 : Int)))
theorem ok_u_law_cell {P : Program} {w : World} {K : PySem.W.Frag} {mg : Str → Option Value} {base : Heap} (T : Facts K mg) {fd : FuncData} (F : FnP K "_law_cell" "_law_cell" s_u_law_cell (He.ga K "_law_cell") fd) :
    FnOk P w K mg base (L2.CX P w) 1 (He.ga K "_law_cell") fd ["script", "k"] (spM K (fun (p : (Ro Int) × Int × Unit) => m_u_law_cell p.1 p.2.1)) := by
  refine fn_ok F sc_u_law_cell (fun y => rfl) (fun cdv A outer s H E hr => ?_)
  refine ⟨_, (pss_cons (ps_if (pt_cmpR op_lt (pv 1) (pe_callB (cr_len rfl) (by rfl) T.n_len (by decide +kernel) (pa_cons (pv 0) pa_nil)) (nomark _)) (pss_one (ps_ret (pe_callTy call_int1 (by rfl) T.n_int (by decide +kernel) (pa_cons (pe_ix (cr_ixL rfl) (pv 0) (pv 1) (fun _ _ => rfl)) pa_nil)))) pss_nil) (pss_one (ps_ret pe_int))), ?_⟩
  rintro ⟨script_, k_, ⟨⟩⟩ F0 H0 Q KP L
  show Blk K F0 H0 KP _ [some (.im (toD script_)), some (.im (toD k_))] (m_u_law_cell script_ k_)
  unfold m_u_law_cell
  have ht_ := ((et_test (ev_op (opx_B0 (g := fun i j => decide (i < j))) mild_ok (ev_var (i := 1) (x := k_) rfl) (ev_cb cx_lenRo (fun _ _ h => nomatch h) (ea_cons (ev_var (i := 0) (x := script_) rfl) ea_nil)))) : EvT K (W0 E) [some (.im (toD script_)), some (.im (toD k_))] _ _)
  refine blk_seq (blk_if2 L trivial ht_ ?_ ?_)
  · have hr_ := ((ev_cb cx_int (fun _ _ h => nomatch h) (ea_cons (ev_op opx_ixR (fun x y => idx_mild x.xs y) (ev_var (i := 0) (x := script_) rfl) (ev_var (i := 1) (x := k_) rfl)) ea_nil)) : EvX K (W0 E) [some (.im (toD script_)), some (.im (toD k_))] _ _)
    exact blk_ret L trivial hr_
  · refine blk_nil ?_
    try refine Blk.nx ?_
    have hr_ := ((ev_int (i := 0)) : EvX K (W0 E) [some (.im (toD script_)), some (.im (toD k_))] _ _)
    exact blk_ret L trivial hr_
noncomputable def m_u_law_is_integer (actual_ : D) : Res Bool :=
  (((Res.ok actual_)).bind fun (t945 : D) => Res.need ((toD t945).plain = true) (Res.ok (isI "int" (toD t945)))).bind fun b948 => cond b948 ((((Res.ok actual_)).bind fun (t946 : D) => Res.need ((toD t946).plain = true) (Res.ok (isI "bool" (toD t946)))).bind fun (t947 : Bool) => Res.ok (!t947)) (Res.ok false)
theorem ok_u_law_is_integer {P : Program} {w : World} {K : PySem.W.Frag} {mg : Str → Option Value} {base : Heap} (T : Facts K mg) {fd : FuncData} (F : FnP K "_law_is_integer" "_law_is_integer" s_u_law_is_integer (He.ga K "_law_is_integer") fd) :
    FnOk P w K mg base (L2.CX P w) 1 (He.ga K "_law_is_integer") fd ["actual"] (spM K (fun (p : D × Unit) => m_u_law_is_integer p.1)) := by
  refine fn_ok F sc_u_law_is_integer (fun y => rfl) (fun cdv A outer s H E hr => ?_)
  refine ⟨_, (pss_one (ps_ret (pe_and (pe_callB call_isi (by rfl) T.n_isinstance (by decide +kernel) (pa_cons (pv 0) (pa_cons (pe_bltn (v := .ty "int") (by rfl) T.n_int (by decide +kernel) rfl) pa_nil))) (pe_one (pe_not (pe_callB call_isi (by rfl) T.n_isinstance (by decide +kernel) (pa_cons (pv 0) (pa_cons (pe_bltn (v := .ty "bool") (by rfl) T.n_bool (by decide +kernel) rfl) pa_nil)))))))), ?_⟩
  rintro ⟨actual_, ⟨⟩⟩ F0 H0 Q KP L
  show Blk K F0 H0 KP _ [some (.im (toD actual_))] (m_u_law_is_integer actual_)
  unfold m_u_law_is_integer
  have hr_ := ((ev_andV (ev_isi isi_int (ev_var (i := 0) (x := actual_) rfl)) (ev_notV (ev_isi isi_bool (ev_var (i := 0) (x := actual_) rfl)))) : EvX K (W0 E) [some (.im (toD actual_))] _ _)
  exact blk_ret L trivial hr_
noncomputable def m_u_law_is_prime_l2 (n_ : Int) (k2 : Int → Res Bool) : List Int → Int → Res Bool
  | [], s => k2 s
  | x959 :: r2, divisor_ =>   (fun (k_ : Int) => ((((Res.ok divisor_)).bind fun (t960 : Int) => ((Res.ok divisor_)).bind fun (t961 : Int) => Res.need (CMulX t960 t961) (Res.ok (t960 * t961))).bind fun (t962 : Int) => ((Res.ok n_)).bind fun (t963 : Int) => Res.ok (decide (t963 < t962))).bind fun b => cond b   ((Res.ok true))   (((((Res.ok n_)).bind fun (t964 : Int) => ((Res.ok divisor_)).bind fun (t965 : Int) => Res.need (0 < t965) (Res.ok (t964 % t965))).bind fun (t966 : Int) => ((Res.ok (0 : Int))).bind fun (t967 : Int) => Res.ok (decide (t966 = t967))).bind fun b => cond b   ((Res.ok false))   ((((Res.ok divisor_)).bind fun (t968 : Int) => ((Res.ok (2 : Int))).bind fun (t969 : Int) => Res.ok (t968 + t969)).bind fun (divisor_ : Int) =>   m_u_law_is_prime_l2 n_ k2 r2 divisor_))) x959
noncomputable def m_u_law_is_prime_k5 : Int → Res Bool := fun divisor_ =>   (Res.ok true)
noncomputable def m_u_law_is_prime (n_ : Int) : Res Bool :=
  ((Res.ok (3 : Int))).bind fun (divisor_ : Int) =>   (((((Res.ok n_)).bind fun (t949 : Int) => ((Res.ok (2 : Int))).bind fun (t950 : Int) => Res.ok (t949 % t950)).bind fun (t951 : Int) => ((Res.ok (0 : Int))).bind fun (t952 : Int) => Res.ok (decide (t951 = t952))).bind fun b955 => cond b955 (Res.ok true) (((Res.ok n_)).bind fun (t953 : Int) => ((Res.ok (3 : Int))).bind fun (t954 : Int) => Res.ok (decide (t953 < t954)))).bind fun b => cond b   (((Res.ok n_)).bind fun (t956 : Int) => ((Res.ok (2 : Int))).bind fun (t957 : Int) => Res.ok (decide (t956 = t957)))   ((((Res.ok (1024 : Int))).bind fun (t958 : Int) => Res.need (okRange t958) (Res.ok (pyRange 0 t958))).bind fun (xs970 : List Int) => m_u_law_is_prime_l2 n_ (m_u_law_is_prime_k5) xs970 divisor_)
theorem ok_u_law_is_prime {P : Program} {w : World} {K : PySem.W.Frag} {mg : Str → Option Value} {base : Heap} (T : Facts K mg) {fd : FuncData} (F : FnP K "_law_is_prime" "_law_is_prime" s_u_law_is_prime (He.ga K "_law_is_prime") fd) :
    FnOk P w K mg base (L2.CX P w) 1 (He.ga K "_law_is_prime") fd ["n"] (spM K (fun (p : Int × Unit) => m_u_law_is_prime p.1)) := by
  refine fn_ok F sc_u_law_is_prime (fun y => rfl) (fun cdv A outer s H E hr => ?_)
  refine ⟨_, (pss_cons (ps_set (i := 1) sc_u_law_is_prime.nd rfl (Or.inl rfl) pe_int) (pss_cons (ps_if (PW.pt (pw_or (pt_cmpR op_eq (pe_op op_mod (pv 0) pe_int) pe_int (nomark _)) (pw_or1 (pt_cmpR op_lt (pv 0) pe_int (nomark _))))) (pss_one (ps_ret (pe_cmpR op_eq (pv 0) pe_int (nomark _)))) pss_nil) (pss_cons (ps_for (passes_of rfl) rfl (pi_range1 rfl T.n_range (pa_cons pe_int pa_nil)) (pg_name (i := 2) sc_u_law_is_prime.nd rfl (Or.inl rfl)) (pss_cons (ps_if (pt_cmpR op_gt (pe_op op_mulX (pv 1) (pv 1)) (pv 0) (nomark _)) (pss_one (ps_ret pe_bl)) pss_nil) (pss_cons (ps_if (pt_cmpR op_eq (pe_op op_mod (pv 0) (pv 1)) pe_int (nomark _)) (pss_one (ps_ret pe_bl)) pss_nil) (pss_one (ps_set (i := 1) sc_u_law_is_prime.nd rfl (Or.inl rfl) (pe_op op_add (pv 1) pe_int)))))) (pss_one (ps_ret pe_bl))))), ?_⟩
  rintro ⟨n_, ⟨⟩⟩ F0 H0 Q KP L
  show Blk K F0 H0 KP _ [some (.im (toD n_)), none, none] (m_u_law_is_prime n_)
  unfold m_u_law_is_prime
  have hs_ := ((ev_int (i := 3)) : EvX K (W0 E) [some (.im (toD n_)), none, none] _ _)
  refine blk_seq (blk_set (i := 1) L trivial hs_ fun divisor_ => ?_)
  show Blk _ _ _ _ _ [some (.im (toD n_)), some (.im (toD divisor_)), none] _
  try refine Blk.nx ?_
  have ht_ := ((et_or (et_test (ev_op opx_eqI mild_ok (ev_opI (C := (fun _ j => 0 < j)) (g := fun i j => i % j) (fun x y _ h => by cases h; (show (0 : Int) < _; decide)) (ev_var (i := 0) (x := n_) rfl) (ev_int (i := 2))) (ev_int (i := 0)))) (et_test (ev_op (opx_B0 (g := fun i j => decide (i < j))) mild_ok (ev_var (i := 0) (x := n_) rfl) (ev_int (i := 3))))) : EvT K (W0 E) [some (.im (toD n_)), some (.im (toD divisor_)), none] _ _)
  refine blk_seq (blk_if2 L trivial ht_ ?_ ?_)
  · have hr_ := ((ev_op opx_eqI mild_ok (ev_var (i := 0) (x := n_) rfl) (ev_int (i := 2))) : EvX K (W0 E) [some (.im (toD n_)), some (.im (toD divisor_)), none] _ _)
    exact blk_ret L trivial hr_
  · refine blk_nil ?_
    try refine Blk.nx ?_
    have hi_ := ((ei_range1 (ev_int (i := 1024))) : EvI K (W0 E) [some (.im (toD n_)), some (.im (toD divisor_)), none] _ _)
    refine blk_seq (blk_for (S := Int) (m_u_law_is_prime_l2 n_ (m_u_law_is_prime_k5)) (m_u_law_is_prime_k5) (fun divisor_ => [some (.im (toD n_)), some (.im (toD divisor_)), none]) divisor_ L trivial hi_ (fun _ => gx_name) (.same (.same (.same .nil))) (fun _ => rfl) ?_ ?_)
    · intro F2 L2 hB2 x959 r2 s_ N_ hN2
      revert s_; intro divisor_
      show Blk _ _ _ _ _ [some (.im (toD n_)), some (.im (toD divisor_)), some (.im (toD x959))] (m_u_law_is_prime_l2 n_ (m_u_law_is_prime_k5) (x959 :: r2) divisor_)
      rw [m_u_law_is_prime_l2]
      show Blk _ _ _ _ _ _ ((fun (k_ : Int) => _) x959)
      generalize x959 = k_
      show Blk _ _ _ _ _ [some (.im (toD n_)), some (.im (toD divisor_)), some (.im (toD k_))] _
      have ht_ := ((et_test (ev_op (opx_B0 (g := fun i j => decide (j < i))) mild_ok (ev_op (opx_I (C := CMulX) (g := fun i j => i * j)) mild_need (ev_var (i := 1) (x := divisor_) rfl) (ev_var (i := 1) (x := divisor_) rfl)) (ev_var (i := 0) (x := n_) rfl))) : EvT K (W0 E) [some (.im (toD n_)), some (.im (toD divisor_)), some (.im (toD k_))] _ _)
      refine blk_seq (blk_if2 L2 trivial ht_ ?_ ?_)
      · have hr_ := ((ev_bl (b := true)) : EvX K (W0 E) [some (.im (toD n_)), some (.im (toD divisor_)), some (.im (toD k_))] _ _)
        exact blk_ret L2 trivial hr_
      · refine blk_nil ?_
        try refine Blk.nx ?_
        have ht_ := ((et_test (ev_op opx_eqI mild_ok (ev_op (opx_I (C := (fun _ j => 0 < j)) (g := fun i j => i % j)) mild_need (ev_var (i := 0) (x := n_) rfl) (ev_var (i := 1) (x := divisor_) rfl)) (ev_int (i := 0)))) : EvT K (W0 E) [some (.im (toD n_)), some (.im (toD divisor_)), some (.im (toD k_))] _ _)
        refine blk_seq (blk_if2 L2 trivial ht_ ?_ ?_)
        · have hr_ := ((ev_bl (b := false)) : EvX K (W0 E) [some (.im (toD n_)), some (.im (toD divisor_)), some (.im (toD k_))] _ _)
          exact blk_ret L2 trivial hr_
        · refine blk_nil ?_
          try refine Blk.nx ?_
          have hs_ := ((ev_op (opx_I0 (g := fun i j => i + j)) mild_ok (ev_var (i := 1) (x := divisor_) rfl) (ev_int (i := 2))) : EvX K (W0 E) [some (.im (toD n_)), some (.im (toD divisor_)), some (.im (toD k_))] _ _)
          refine blk_set (i := 1) L2 trivial hs_ fun divisor_ => ?_
          show Blk _ _ _ _ _ [some (.im (toD n_)), some (.im (toD divisor_)), some (.im (toD k_))] _
          try refine Blk.nx ?_
          exact (hN2 divisor_).weak (.same (.same (.drop .nil)))
    · intro divisor_
      show Blk _ _ _ _ _ [some (.im (toD n_)), some (.im (toD divisor_)), none] ((m_u_law_is_prime_k5) divisor_)
      unfold m_u_law_is_prime_k5
      try refine Blk.nx ?_
      have hr_ := ((ev_bl (b := true)) : EvX K (W0 E) [some (.im (toD n_)), some (.im (toD divisor_)), none] _ _)
      exact blk_ret L trivial hr_
noncomputable def m_u_law_prime_l3 (k3 : Int → Res Int) : List Int → Int → Res Int
  | [], s => k3 s
  | x1064 :: r3, number_ =>   (fun (k_ : Int) => ((((Res.ok number_)).bind fun a1066 => (Res.ok ()).bind fun a1067 => Res.ok (a1066, a1067)).bind fun p1065 => m_u_law_is_prime p1065.1).bind fun b => cond b   ((Res.ok number_))   ((((Res.ok number_)).bind fun (t1068 : Int) => ((Res.ok (1 : Int))).bind fun (t1069 : Int) => Res.ok (t1068 + t1069)).bind fun (number_ : Int) =>   m_u_law_prime_l3 k3 r3 number_)) x1064
noncomputable def m_u_law_prime_k5 : Int → Res Int := fun number_ =>   (Res.ok (65537 : Int))
noncomputable def m_u_law_prime (cell_ : Int) (least_ : Int) : Res Int :=
  ((((Res.ok cell_)).bind fun a972 => (Res.ok ()).bind fun a973 => Res.ok (a972, a973)).bind fun p971 => Res.ok (Int.natAbs p971.1 : Int)).bind fun (rest_ : Int) =>   ((((Res.ok rest_)).bind fun (t974 : Int) => ((Res.ok (5 : Int))).bind fun (t975 : Int) => Res.ok (t974 % t975)).bind fun (t976 : Int) => ((Res.ok (1 : Int))).bind fun (t977 : Int) => Res.ok (decide (t976 = t977))).bind fun b => cond b   (((((Res.ok (5 : Int))).bind fun a979 => (((Res.ok (7 : Int))).bind fun a981 => (((Res.ok (11 : Int))).bind fun a983 => (((Res.ok (13 : Int))).bind fun a985 => (((Res.ok (17 : Int))).bind fun a987 => (((Res.ok (19 : Int))).bind fun a989 => (((Res.ok (23 : Int))).bind fun a991 => (((Res.ok (29 : Int))).bind fun a993 => (((Res.ok (31 : Int))).bind fun a995 => (((Res.ok (37 : Int))).bind fun a997 => (((Res.ok (41 : Int))).bind fun a999 => (((Res.ok (43 : Int))).bind fun a1001 => (Res.ok ()).bind fun a1002 => Res.ok (a1001, a1002)).bind fun a1000 => Res.ok (a999, a1000)).bind fun a998 => Res.ok (a997, a998)).bind fun a996 => Res.ok (a995, a996)).bind fun a994 => Res.ok (a993, a994)).bind fun a992 => Res.ok (a991, a992)).bind fun a990 => Res.ok (a989, a990)).bind fun a988 => Res.ok (a987, a988)).bind fun a986 => Res.ok (a985, a986)).bind fun a984 => Res.ok (a983, a984)).bind fun a982 => Res.ok (a981, a982)).bind fun a980 => Res.ok (a979, a980)).bind fun p978 => Res.ok ([p978.1, p978.2.1, p978.2.2.1, p978.2.2.2.1, p978.2.2.2.2.1, p978.2.2.2.2.2.1, p978.2.2.2.2.2.2.1, p978.2.2.2.2.2.2.2.1, p978.2.2.2.2.2.2.2.2.1, p978.2.2.2.2.2.2.2.2.2.1, p978.2.2.2.2.2.2.2.2.2.2.1, p978.2.2.2.2.2.2.2.2.2.2.2.1] : List Int)).bind fun (t1007 : (List Int)) => ((((Res.ok rest_)).bind fun (t1003 : Int) => ((Res.ok (5 : Int))).bind fun (t1004 : Int) => Res.ok (t1003 / t1004)).bind fun (t1005 : Int) => ((Res.ok (12 : Int))).bind fun (t1006 : Int) => Res.ok (t1005 % t1006)).bind fun (t1008 : Int) => idx t1007 t1008)   (((((Res.ok rest_)).bind fun (t1009 : Int) => ((Res.ok (5 : Int))).bind fun (t1010 : Int) => Res.ok (t1009 % t1010)).bind fun (t1011 : Int) => ((Res.ok (2 : Int))).bind fun (t1012 : Int) => Res.ok (decide (t1011 = t1012))).bind fun b => cond b   (((((Res.ok (97 : Int))).bind fun a1014 => (((Res.ok (193 : Int))).bind fun a1016 => (((Res.ok (257 : Int))).bind fun a1018 => (((Res.ok (7681 : Int))).bind fun a1020 => (((Res.ok (12289 : Int))).bind fun a1022 => (((Res.ok (65537 : Int))).bind fun a1024 => (((Res.ok (786433 : Int))).bind fun a1026 => (((Res.ok (65521 : Int))).bind fun a1028 => (((Res.ok (8191 : Int))).bind fun a1030 => (((Res.ok (131071 : Int))).bind fun a1032 => (((Res.ok (524287 : Int))).bind fun a1034 => (((Res.ok (241 : Int))).bind fun a1036 => (Res.ok ()).bind fun a1037 => Res.ok (a1036, a1037)).bind fun a1035 => Res.ok (a1034, a1035)).bind fun a1033 => Res.ok (a1032, a1033)).bind fun a1031 => Res.ok (a1030, a1031)).bind fun a1029 => Res.ok (a1028, a1029)).bind fun a1027 => Res.ok (a1026, a1027)).bind fun a1025 => Res.ok (a1024, a1025)).bind fun a1023 => Res.ok (a1022, a1023)).bind fun a1021 => Res.ok (a1020, a1021)).bind fun a1019 => Res.ok (a1018, a1019)).bind fun a1017 => Res.ok (a1016, a1017)).bind fun a1015 => Res.ok (a1014, a1015)).bind fun p1013 => Res.ok ([p1013.1, p1013.2.1, p1013.2.2.1, p1013.2.2.2.1, p1013.2.2.2.2.1, p1013.2.2.2.2.2.1, p1013.2.2.2.2.2.2.1, p1013.2.2.2.2.2.2.2.1, p1013.2.2.2.2.2.2.2.2.1, p1013.2.2.2.2.2.2.2.2.2.1, p1013.2.2.2.2.2.2.2.2.2.2.1, p1013.2.2.2.2.2.2.2.2.2.2.2.1] : List Int)).bind fun (t1042 : (List Int)) => ((((Res.ok rest_)).bind fun (t1038 : Int) => ((Res.ok (5 : Int))).bind fun (t1039 : Int) => Res.ok (t1038 / t1039)).bind fun (t1040 : Int) => ((Res.ok (12 : Int))).bind fun (t1041 : Int) => Res.ok (t1040 % t1041)).bind fun (t1043 : Int) => idx t1042 t1043)   ((((Res.ok least_)).bind fun (t1061 : Int) => ((((Res.ok rest_)).bind fun (t1044 : Int) => ((Res.ok (5 : Int))).bind fun (t1045 : Int) => Res.ok (t1044 / t1045)).bind fun (t1059 : Int) => (((((Res.ok (60 : Int))).bind fun a1047 => (((Res.ok (1000 : Int))).bind fun a1049 => (((Res.ok (1000000 : Int))).bind fun a1051 => (Res.ok ()).bind fun a1052 => Res.ok (a1051, a1052)).bind fun a1050 => Res.ok (a1049, a1050)).bind fun a1048 => Res.ok (a1047, a1048)).bind fun p1046 => Res.ok ([p1046.1, p1046.2.1, p1046.2.2.1] : List Int)).bind fun (t1057 : (List Int)) => ((((Res.ok rest_)).bind fun (t1053 : Int) => ((Res.ok (15 : Int))).bind fun (t1054 : Int) => Res.ok (t1053 / t1054)).bind fun (t1055 : Int) => ((Res.ok (3 : Int))).bind fun (t1056 : Int) => Res.ok (t1055 % t1056)).bind fun (t1058 : Int) => idx t1057 t1058).bind fun (t1060 : Int) => Res.need (0 < t1060) (Res.ok (t1059 % t1060))).bind fun (t1062 : Int) => Res.ok (t1061 + t1062)).bind fun (number_ : Int) =>   (((Res.ok (400 : Int))).bind fun (t1063 : Int) => Res.need (okRange t1063) (Res.ok (pyRange 0 t1063))).bind fun (xs1070 : List Int) => m_u_law_prime_l3 (m_u_law_prime_k5) xs1070 number_))
theorem ok_u_law_prime {P : Program} {w : World} {K : PySem.W.Frag} {mg : Str → Option Value} {base : Heap} (T : Facts K mg) {fd : FuncData} (F : FnP K "_law_prime" "_law_prime" s_u_law_prime (He.ga K "_law_prime") fd) :
    FnOk P w K mg base (L2.CX P w) 2 (He.ga K "_law_prime") fd ["cell", "least"] (spM K (fun (p : Int × Int × Unit) => m_u_law_prime p.1 p.2.1)) := by
  obtain ⟨fd_u_law_is_prime, F_u_law_is_prime⟩ := T.d_u_law_is_prime
  have G_u_law_is_prime := ok_u_law_is_prime (P := P) (w := w) (base := base) T F_u_law_is_prime
  have b_u_law_is_prime : Binds K fd_u_law_is_prime ["n"] [] := F_u_law_is_prime.bindsN fun _ _ _ _ _ _ us hl => match us, hl with | [_], _ => rfl
  refine fn_ok F sc_u_law_prime (fun y => rfl) (fun cdv A outer s H E hr => ?_)
  refine ⟨_, (pss_cons (ps_set (i := 2) sc_u_law_prime.nd rfl (Or.inl rfl) (pe_callB call_abs (by rfl) T.n_abs (by decide +kernel) (pa_cons (pv 0) pa_nil))) (pss_cons (ps_if (pt_cmpR op_eq (pe_op op_mod (pv 2) pe_int) pe_int (nomark _)) (pss_one (ps_ret (pe_ix (cr_ixL rfl) (pe_lst (pa_cons pe_int (pa_cons pe_int (pa_cons pe_int (pa_cons pe_int (pa_cons pe_int (pa_cons pe_int (pa_cons pe_int (pa_cons pe_int (pa_cons pe_int (pa_cons pe_int (pa_cons pe_int (pa_cons pe_int pa_nil))))))))))))) (pe_op op_mod (pe_op op_fdiv (pv 2) pe_int) pe_int) (fun _ _ => rfl)))) pss_nil) (pss_cons (ps_if (pt_cmpR op_eq (pe_op op_mod (pv 2) pe_int) pe_int (nomark _)) (pss_one (ps_ret (pe_ix (cr_ixL rfl) (pe_lst (pa_cons pe_int (pa_cons pe_int (pa_cons pe_int (pa_cons pe_int (pa_cons pe_int (pa_cons pe_int (pa_cons pe_int (pa_cons pe_int (pa_cons pe_int (pa_cons pe_int (pa_cons pe_int (pa_cons pe_int pa_nil))))))))))))) (pe_op op_mod (pe_op op_fdiv (pv 2) pe_int) pe_int) (fun _ _ => rfl)))) pss_nil) (pss_cons (ps_set (i := 3) sc_u_law_prime.nd rfl (Or.inl rfl) (pe_op op_add (pv 1) (pe_op op_mod (pe_op op_fdiv (pv 2) pe_int) (pe_ix (cr_ixL rfl) (pe_lst (pa_cons pe_int (pa_cons pe_int (pa_cons pe_int pa_nil)))) (pe_op op_mod (pe_op op_fdiv (pv 2) pe_int) pe_int) (fun _ _ => rfl))))) (pss_cons (ps_for (passes_of rfl) rfl (pi_range1 rfl T.n_range (pa_cons pe_int pa_nil)) (pg_name (i := 4) sc_u_law_prime.nd rfl (Or.inl rfl)) (pss_cons (ps_if (pt_val (pe_callS G_u_law_is_prime (hr.mono (by decide)) rfl T.g_u_law_is_prime F_u_law_is_prime.kp b_u_law_is_prime (fun σ => passAt (takes_of rfl rfl rfl rfl) σ) (pa_cons (pv 3) pa_nil))) (pss_one (ps_ret (pv 3))) pss_nil) (pss_one (ps_set (i := 3) sc_u_law_prime.nd rfl (Or.inl rfl) (pe_op op_add (pv 3) pe_int))))) (pss_one (ps_ret pe_int))))))), ?_⟩
  rintro ⟨cell_, least_, ⟨⟩⟩ F0 H0 Q KP L
  show Blk K F0 H0 KP _ [some (.im (toD cell_)), some (.im (toD least_)), none, none, none] (m_u_law_prime cell_ least_)
  unfold m_u_law_prime
  have hs_ := ((ev_cb cx_abs (fun _ _ h => nomatch h) (ea_cons (ev_var (i := 0) (x := cell_) rfl) ea_nil)) : EvX K (W0 E) [some (.im (toD cell_)), some (.im (toD least_)), none, none, none] _ _)
  refine blk_seq (blk_set (i := 2) L trivial hs_ fun rest_ => ?_)
  show Blk _ _ _ _ _ [some (.im (toD cell_)), some (.im (toD least_)), some (.im (toD rest_)), none, none] _
  try refine Blk.nx ?_
  have ht_ := ((et_test (ev_op opx_eqI mild_ok (ev_opI (C := (fun _ j => 0 < j)) (g := fun i j => i % j) (fun x y _ h => by cases h; (show (0 : Int) < _; decide)) (ev_var (i := 2) (x := rest_) rfl) (ev_int (i := 5))) (ev_int (i := 1)))) : EvT K (W0 E) [some (.im (toD cell_)), some (.im (toD least_)), some (.im (toD rest_)), none, none] _ _)
  refine blk_seq (blk_if2 L trivial ht_ ?_ ?_)
  · have hr_ := ((ev_op opx_ixL (fun x y => idx_mild x y) (ev_ofN (en_lst (f := (fun y => ([y.1, y.2.1, y.2.2.1, y.2.2.2.1, y.2.2.2.2.1, y.2.2.2.2.2.1, y.2.2.2.2.2.2.1, y.2.2.2.2.2.2.2.1, y.2.2.2.2.2.2.2.2.1, y.2.2.2.2.2.2.2.2.2.1, y.2.2.2.2.2.2.2.2.2.2.1, y.2.2.2.2.2.2.2.2.2.2.2.1] : List Int))) (ea_cons (ev_int (i := 5)) (ea_cons (ev_int (i := 7)) (ea_cons (ev_int (i := 11)) (ea_cons (ev_int (i := 13)) (ea_cons (ev_int (i := 17)) (ea_cons (ev_int (i := 19)) (ea_cons (ev_int (i := 23)) (ea_cons (ev_int (i := 29)) (ea_cons (ev_int (i := 31)) (ea_cons (ev_int (i := 37)) (ea_cons (ev_int (i := 41)) (ea_cons (ev_int (i := 43)) ea_nil)))))))))))) (fun _ => rfl) (fun _ => by show 12 ≤ 100000; decide))) (ev_opI (C := (fun _ j => 0 < j)) (g := fun i j => i % j) (fun x y _ h => by cases h; (show (0 : Int) < _; decide)) (ev_opI (C := CDiv) (g := fun i j => i / j) (fun x y _ h => by cases h; exact ⟨by decide, by decide⟩) (ev_var (i := 2) (x := rest_) rfl) (ev_int (i := 5))) (ev_int (i := 12)))) : EvX K (W0 E) [some (.im (toD cell_)), some (.im (toD least_)), some (.im (toD rest_)), none, none] _ _)
    exact blk_ret L trivial hr_
  · refine blk_nil ?_
    try refine Blk.nx ?_
    have ht_ := ((et_test (ev_op opx_eqI mild_ok (ev_opI (C := (fun _ j => 0 < j)) (g := fun i j => i % j) (fun x y _ h => by cases h; (show (0 : Int) < _; decide)) (ev_var (i := 2) (x := rest_) rfl) (ev_int (i := 5))) (ev_int (i := 2)))) : EvT K (W0 E) [some (.im (toD cell_)), some (.im (toD least_)), some (.im (toD rest_)), none, none] _ _)
    refine blk_seq (blk_if2 L trivial ht_ ?_ ?_)
    · have hr_ := ((ev_op opx_ixL (fun x y => idx_mild x y) (ev_ofN (en_lst (f := (fun y => ([y.1, y.2.1, y.2.2.1, y.2.2.2.1, y.2.2.2.2.1, y.2.2.2.2.2.1, y.2.2.2.2.2.2.1, y.2.2.2.2.2.2.2.1, y.2.2.2.2.2.2.2.2.1, y.2.2.2.2.2.2.2.2.2.1, y.2.2.2.2.2.2.2.2.2.2.1, y.2.2.2.2.2.2.2.2.2.2.2.1] : List Int))) (ea_cons (ev_int (i := 97)) (ea_cons (ev_int (i := 193)) (ea_cons (ev_int (i := 257)) (ea_cons (ev_int (i := 7681)) (ea_cons (ev_int (i := 12289)) (ea_cons (ev_int (i := 65537)) (ea_cons (ev_int (i := 786433)) (ea_cons (ev_int (i := 65521)) (ea_cons (ev_int (i := 8191)) (ea_cons (ev_int (i := 131071)) (ea_cons (ev_int (i := 524287)) (ea_cons (ev_int (i := 241)) ea_nil)))))))))))) (fun _ => rfl) (fun _ => by show 12 ≤ 100000; decide))) (ev_opI (C := (fun _ j => 0 < j)) (g := fun i j => i % j) (fun x y _ h => by cases h; (show (0 : Int) < _; decide)) (ev_opI (C := CDiv) (g := fun i j => i / j) (fun x y _ h => by cases h; exact ⟨by decide, by decide⟩) (ev_var (i := 2) (x := rest_) rfl) (ev_int (i := 5))) (ev_int (i := 12)))) : EvX K (W0 E) [some (.im (toD cell_)), some (.im (toD least_)), some (.im (toD rest_)), none, none] _ _)
      exact blk_ret L trivial hr_
    · refine blk_nil ?_
      try refine Blk.nx ?_
      have hs_ := ((ev_op (opx_I0 (g := fun i j => i + j)) mild_ok (ev_var (i := 1) (x := least_) rfl) (ev_op (opx_I (C := (fun _ j => 0 < j)) (g := fun i j => i % j)) mild_need (ev_opI (C := CDiv) (g := fun i j => i / j) (fun x y _ h => by cases h; exact ⟨by decide, by decide⟩) (ev_var (i := 2) (x := rest_) rfl) (ev_int (i := 5))) (ev_op opx_ixL (fun x y => idx_mild x y) (ev_ofN (en_lst (f := (fun y => ([y.1, y.2.1, y.2.2.1] : List Int))) (ea_cons (ev_int (i := 60)) (ea_cons (ev_int (i := 1000)) (ea_cons (ev_int (i := 1000000)) ea_nil))) (fun _ => rfl) (fun _ => by show 3 ≤ 100000; decide))) (ev_opI (C := (fun _ j => 0 < j)) (g := fun i j => i % j) (fun x y _ h => by cases h; (show (0 : Int) < _; decide)) (ev_opI (C := CDiv) (g := fun i j => i / j) (fun x y _ h => by cases h; exact ⟨by decide, by decide⟩) (ev_var (i := 2) (x := rest_) rfl) (ev_int (i := 15))) (ev_int (i := 3)))))) : EvX K (W0 E) [some (.im (toD cell_)), some (.im (toD least_)), some (.im (toD rest_)), none, none] _ _)
      refine blk_seq (blk_set (i := 3) L trivial hs_ fun number_ => ?_)
      show Blk _ _ _ _ _ [some (.im (toD cell_)), some (.im (toD least_)), some (.im (toD rest_)), some (.im (toD number_)), none] _
      try refine Blk.nx ?_
      have hi_ := ((ei_range1 (ev_int (i := 400))) : EvI K (W0 E) [some (.im (toD cell_)), some (.im (toD least_)), some (.im (toD rest_)), some (.im (toD number_)), none] _ _)
      refine blk_seq (blk_for (S := Int) (m_u_law_prime_l3 (m_u_law_prime_k5)) (m_u_law_prime_k5) (fun number_ => [some (.im (toD cell_)), some (.im (toD least_)), some (.im (toD rest_)), some (.im (toD number_)), none]) number_ L trivial hi_ (fun _ => gx_name) (.same (.same (.same (.same (.same .nil))))) (fun _ => rfl) ?_ ?_)
      · intro F3 L3 hB3 x1064 r3 s_ N_ hN3
        revert s_; intro number_
        show Blk _ _ _ _ _ [some (.im (toD cell_)), some (.im (toD least_)), some (.im (toD rest_)), some (.im (toD number_)), some (.im (toD x1064))] (m_u_law_prime_l3 (m_u_law_prime_k5) (x1064 :: r3) number_)
        rw [m_u_law_prime_l3]
        show Blk _ _ _ _ _ _ ((fun (k_ : Int) => _) x1064)
        generalize x1064 = k_
        show Blk _ _ _ _ _ [some (.im (toD cell_)), some (.im (toD least_)), some (.im (toD rest_)), some (.im (toD number_)), some (.im (toD k_))] _
        have ht_ := ((et_B (ev_call (f := (fun (p : Int × Unit) => m_u_law_is_prime p.1)) (ea_cons (ev_var (i := 3) (x := number_) rfl) ea_nil))) : EvT K (W0 E) [some (.im (toD cell_)), some (.im (toD least_)), some (.im (toD rest_)), some (.im (toD number_)), some (.im (toD k_))] _ _)
        refine blk_seq (blk_if2 L3 trivial ht_ ?_ ?_)
        · have hr_ := ((ev_var (i := 3) (x := number_) rfl) : EvX K (W0 E) [some (.im (toD cell_)), some (.im (toD least_)), some (.im (toD rest_)), some (.im (toD number_)), some (.im (toD k_))] _ _)
          exact blk_ret L3 trivial hr_
        · refine blk_nil ?_
          try refine Blk.nx ?_
          have hs_ := ((ev_op (opx_I0 (g := fun i j => i + j)) mild_ok (ev_var (i := 3) (x := number_) rfl) (ev_int (i := 1))) : EvX K (W0 E) [some (.im (toD cell_)), some (.im (toD least_)), some (.im (toD rest_)), some (.im (toD number_)), some (.im (toD k_))] _ _)
          refine blk_set (i := 3) L3 trivial hs_ fun number_ => ?_
          show Blk _ _ _ _ _ [some (.im (toD cell_)), some (.im (toD least_)), some (.im (toD rest_)), some (.im (toD number_)), some (.im (toD k_))] _
          try refine Blk.nx ?_
          exact (hN3 number_).weak (.same (.same (.same (.same (.drop .nil)))))
      · intro number_
        show Blk _ _ _ _ _ [some (.im (toD cell_)), some (.im (toD least_)), some (.im (toD rest_)), some (.im (toD number_)), none] ((m_u_law_prime_k5) number_)
        unfold m_u_law_prime_k5
        try refine Blk.nx ?_
        have hr_ := ((ev_int (i := 65537)) : EvX K (W0 E) [some (.im (toD cell_)), some (.im (toD least_)), some (.im (toD rest_)), some (.im (toD number_)), none] _ _)
        exact blk_ret L trivial hr_
noncomputable def m_u_law_power_k3 (exponent_ : Int) (modulus_ : Int) (square_ : Int) (g1 : Int × Int × Int → Res Int) : Int → Res Int := fun result_ =>   ((((Res.ok square_)).bind fun (t1081 : Int) => ((Res.ok square_)).bind fun (t1082 : Int) => Res.need (CMulX t1081 t1082) (Res.ok (t1081 * t1082))).bind fun (t1083 : Int) => ((Res.ok modulus_)).bind fun (t1084 : Int) => Res.need (0 < t1084) (Res.ok (t1083 % t1084))).bind fun (square_ : Int) =>   (((Res.ok exponent_)).bind fun (t1085 : Int) => ((Res.ok (2 : Int))).bind fun (t1086 : Int) => Res.ok (t1085 / t1086)).bind fun (exponent_ : Int) =>   g1 (exponent_, result_, square_)
noncomputable def m_u_law_power_l1 (modulus_ : Int) (k1 : Int × Int × Int → Res Int) : List Int → Int × Int × Int → Res Int
  | [], s => k1 s
  | x1074 :: r1, (exponent_, result_, square_) =>   (fun (k_ : Int) => (((Res.ok exponent_)).bind fun (t1075 : Int) => ((Res.ok (0 : Int))).bind fun (t1076 : Int) => Res.ok (decide (t1075 = t1076))).bind fun b => cond b   (k1 (exponent_, result_, square_))   (((((Res.ok exponent_)).bind fun (t1077 : Int) => ((Res.ok (2 : Int))).bind fun (t1078 : Int) => Res.ok (t1077 % t1078)).bind fun (t1079 : Int) => ((Res.ok (1 : Int))).bind fun (t1080 : Int) => Res.ok (decide (t1079 = t1080))).bind fun b => cond b   (((((Res.ok result_)).bind fun (t1087 : Int) => ((Res.ok square_)).bind fun (t1088 : Int) => Res.need (CMulX t1087 t1088) (Res.ok (t1087 * t1088))).bind fun (t1089 : Int) => ((Res.ok modulus_)).bind fun (t1090 : Int) => Res.need (0 < t1090) (Res.ok (t1089 % t1090))).bind fun (result_ : Int) =>   (m_u_law_power_k3 exponent_ modulus_ square_ (m_u_law_power_l1 modulus_ k1 r1)) result_)   ((m_u_law_power_k3 exponent_ modulus_ square_ (m_u_law_power_l1 modulus_ k1 r1)) result_))) x1074
noncomputable def m_u_law_power_k4 : Int × Int × Int → Res Int := fun (exponent_, result_, square_) =>   (Res.ok result_)
noncomputable def m_u_law_power (a_ : Int) (exponent_ : Int) (modulus_ : Int) : Res Int :=
  ((Res.ok (1 : Int))).bind fun (result_ : Int) =>   (((Res.ok a_)).bind fun (t1071 : Int) => ((Res.ok modulus_)).bind fun (t1072 : Int) => Res.need (0 < t1072) (Res.ok (t1071 % t1072))).bind fun (square_ : Int) =>   (((Res.ok (260 : Int))).bind fun (t1073 : Int) => Res.need (okRange t1073) (Res.ok (pyRange 0 t1073))).bind fun (xs1091 : List Int) => m_u_law_power_l1 modulus_ (m_u_law_power_k4) xs1091 (exponent_, result_, square_)
theorem ok_u_law_power {P : Program} {w : World} {K : PySem.W.Frag} {mg : Str → Option Value} {base : Heap} (T : Facts K mg) {fd : FuncData} (F : FnP K "_law_power" "_law_power" s_u_law_power (He.ga K "_law_power") fd) :
    FnOk P w K mg base (L2.CX P w) 1 (He.ga K "_law_power") fd ["a", "exponent", "modulus"] (spM K (fun (p : Int × Int × Int × Unit) => m_u_law_power p.1 p.2.1 p.2.2.1)) := by
  refine fn_ok F sc_u_law_power (fun y => rfl) (fun cdv A outer s H E hr => ?_)
  refine ⟨_, (pss_cons (ps_set (i := 3) sc_u_law_power.nd rfl (Or.inl rfl) pe_int) (pss_cons (ps_set (i := 4) sc_u_law_power.nd rfl (Or.inl rfl) (pe_op op_mod (pv 0) (pv 2))) (pss_cons (ps_for (passes_of rfl) rfl (pi_range1 rfl T.n_range (pa_cons pe_int pa_nil)) (pg_name (i := 5) sc_u_law_power.nd rfl (Or.inl rfl)) (pss_cons (ps_if (pt_cmpR op_eq (pv 1) pe_int (nomark _)) (pss_one ps_break) pss_nil) (pss_cons (ps_if (pt_cmpR op_eq (pe_op op_mod (pv 1) pe_int) pe_int (nomark _)) (pss_one (ps_set (i := 3) sc_u_law_power.nd rfl (Or.inl rfl) (pe_op op_mod (pe_op op_mulX (pv 3) (pv 4)) (pv 2)))) pss_nil) (pss_cons (ps_set (i := 4) sc_u_law_power.nd rfl (Or.inl rfl) (pe_op op_mod (pe_op op_mulX (pv 4) (pv 4)) (pv 2))) (pss_one (ps_set (i := 1) sc_u_law_power.nd rfl (Or.inl rfl) (pe_op op_fdiv (pv 1) pe_int))))))) (pss_one (ps_ret (pv 3)))))), ?_⟩
  rintro ⟨a_, exponent_, modulus_, ⟨⟩⟩ F0 H0 Q KP L
  show Blk K F0 H0 KP _ [some (.im (toD a_)), some (.im (toD exponent_)), some (.im (toD modulus_)), none, none, none] (m_u_law_power a_ exponent_ modulus_)
  unfold m_u_law_power
  have hs_ := ((ev_int (i := 1)) : EvX K (W0 E) [some (.im (toD a_)), some (.im (toD exponent_)), some (.im (toD modulus_)), none, none, none] _ _)
  refine blk_seq (blk_set (i := 3) L trivial hs_ fun result_ => ?_)
  show Blk _ _ _ _ _ [some (.im (toD a_)), some (.im (toD exponent_)), some (.im (toD modulus_)), some (.im (toD result_)), none, none] _
  try refine Blk.nx ?_
  have hs_ := ((ev_op (opx_I (C := (fun _ j => 0 < j)) (g := fun i j => i % j)) mild_need (ev_var (i := 0) (x := a_) rfl) (ev_var (i := 2) (x := modulus_) rfl)) : EvX K (W0 E) [some (.im (toD a_)), some (.im (toD exponent_)), some (.im (toD modulus_)), some (.im (toD result_)), none, none] _ _)
  refine blk_seq (blk_set (i := 4) L trivial hs_ fun square_ => ?_)
  show Blk _ _ _ _ _ [some (.im (toD a_)), some (.im (toD exponent_)), some (.im (toD modulus_)), some (.im (toD result_)), some (.im (toD square_)), none] _
  try refine Blk.nx ?_
  have hi_ := ((ei_range1 (ev_int (i := 260))) : EvI K (W0 E) [some (.im (toD a_)), some (.im (toD exponent_)), some (.im (toD modulus_)), some (.im (toD result_)), some (.im (toD square_)), none] _ _)
  refine blk_seq (blk_for (S := Int × Int × Int) (m_u_law_power_l1 modulus_ (m_u_law_power_k4)) (m_u_law_power_k4) (fun (exponent_, result_, square_) => [some (.im (toD a_)), some (.im (toD exponent_)), some (.im (toD modulus_)), some (.im (toD result_)), some (.im (toD square_)), none]) (exponent_, result_, square_) L trivial hi_ (fun _ => gx_name) (.same (.same (.same (.same (.same (.same .nil)))))) (fun _ => rfl) ?_ ?_)
  · intro F1 L1 hB1 x1074 r1 s_ N_ hN1
    obtain ⟨exponent_, result_, square_⟩ := s_
    show Blk _ _ _ _ _ [some (.im (toD a_)), some (.im (toD exponent_)), some (.im (toD modulus_)), some (.im (toD result_)), some (.im (toD square_)), some (.im (toD x1074))] (m_u_law_power_l1 modulus_ (m_u_law_power_k4) (x1074 :: r1) (exponent_, result_, square_))
    rw [m_u_law_power_l1]
    show Blk _ _ _ _ _ _ ((fun (k_ : Int) => _) x1074)
    generalize x1074 = k_
    show Blk _ _ _ _ _ [some (.im (toD a_)), some (.im (toD exponent_)), some (.im (toD modulus_)), some (.im (toD result_)), some (.im (toD square_)), some (.im (toD k_))] _
    have ht_ := ((et_test (ev_op opx_eqI mild_ok (ev_var (i := 1) (x := exponent_) rfl) (ev_int (i := 0)))) : EvT K (W0 E) [some (.im (toD a_)), some (.im (toD exponent_)), some (.im (toD modulus_)), some (.im (toD result_)), some (.im (toD square_)), some (.im (toD k_))] _ _)
    refine blk_seq (blk_if2 L1 trivial ht_ ?_ ?_)
    · exact (hB1 (exponent_, result_, square_)).weak (.same (.same (.same (.same (.same (.drop .nil))))))
    · refine blk_nil ?_
      try refine Blk.nx ?_
      have ht_ := ((et_test (ev_op opx_eqI mild_ok (ev_opI (C := (fun _ j => 0 < j)) (g := fun i j => i % j) (fun x y _ h => by cases h; (show (0 : Int) < _; decide)) (ev_var (i := 1) (x := exponent_) rfl) (ev_int (i := 2))) (ev_int (i := 1)))) : EvT K (W0 E) [some (.im (toD a_)), some (.im (toD exponent_)), some (.im (toD modulus_)), some (.im (toD result_)), some (.im (toD square_)), some (.im (toD k_))] _ _)
      refine blk_seq (blk_ifj (S := Int) (fun result_ => [some (.im (toD a_)), some (.im (toD exponent_)), some (.im (toD modulus_)), some (.im (toD result_)), some (.im (toD square_)), some (.im (toD k_))]) (m_u_law_power_k3 exponent_ modulus_ square_ (m_u_law_power_l1 modulus_ (m_u_law_power_k4) r1)) L1 trivial ht_ ?_ ?_ ?_)
      · intro result_
        show Blk _ _ _ _ _ [some (.im (toD a_)), some (.im (toD exponent_)), some (.im (toD modulus_)), some (.im (toD result_)), some (.im (toD square_)), some (.im (toD k_))] ((m_u_law_power_k3 exponent_ modulus_ square_ (m_u_law_power_l1 modulus_ (m_u_law_power_k4) r1)) result_)
        unfold m_u_law_power_k3
        try refine Blk.nx ?_
        have hs_ := ((ev_op (opx_I (C := (fun _ j => 0 < j)) (g := fun i j => i % j)) mild_need (ev_op (opx_I (C := CMulX) (g := fun i j => i * j)) mild_need (ev_var (i := 4) (x := square_) rfl) (ev_var (i := 4) (x := square_) rfl)) (ev_var (i := 2) (x := modulus_) rfl)) : EvX K (W0 E) [some (.im (toD a_)), some (.im (toD exponent_)), some (.im (toD modulus_)), some (.im (toD result_)), some (.im (toD square_)), some (.im (toD k_))] _ _)
        refine blk_seq (blk_set (i := 4) L1 trivial hs_ fun square_ => ?_)
        show Blk _ _ _ _ _ [some (.im (toD a_)), some (.im (toD exponent_)), some (.im (toD modulus_)), some (.im (toD result_)), some (.im (toD square_)), some (.im (toD k_))] _
        try refine Blk.nx ?_
        have hs_ := ((ev_opI (C := CDiv) (g := fun i j => i / j) (fun x y _ h => by cases h; exact ⟨by decide, by decide⟩) (ev_var (i := 1) (x := exponent_) rfl) (ev_int (i := 2))) : EvX K (W0 E) [some (.im (toD a_)), some (.im (toD exponent_)), some (.im (toD modulus_)), some (.im (toD result_)), some (.im (toD square_)), some (.im (toD k_))] _ _)
        refine blk_set (i := 1) L1 trivial hs_ fun exponent_ => ?_
        show Blk _ _ _ _ _ [some (.im (toD a_)), some (.im (toD exponent_)), some (.im (toD modulus_)), some (.im (toD result_)), some (.im (toD square_)), some (.im (toD k_))] _
        try refine Blk.nx ?_
        exact (hN1 (exponent_, result_, square_)).weak (.same (.same (.same (.same (.same (.drop .nil))))))
      · intro hk3
        have hs_ := ((ev_op (opx_I (C := (fun _ j => 0 < j)) (g := fun i j => i % j)) mild_need (ev_op (opx_I (C := CMulX) (g := fun i j => i * j)) mild_need (ev_var (i := 3) (x := result_) rfl) (ev_var (i := 4) (x := square_) rfl)) (ev_var (i := 2) (x := modulus_) rfl)) : EvX K (W0 E) [some (.im (toD a_)), some (.im (toD exponent_)), some (.im (toD modulus_)), some (.im (toD result_)), some (.im (toD square_)), some (.im (toD k_))] _ _)
        refine blk_set (i := 3) L1 trivial hs_ fun result_ => ?_
        show Blk _ _ _ _ _ [some (.im (toD a_)), some (.im (toD exponent_)), some (.im (toD modulus_)), some (.im (toD result_)), some (.im (toD square_)), some (.im (toD k_))] _
        try refine Blk.nx ?_
        exact (hk3 result_).weak (.same (.same (.same (.same (.same (.same .nil))))))
      · intro hk3
        refine blk_nil ?_
        try refine Blk.nx ?_
        exact (hk3 result_).weak (.same (.same (.same (.same (.same (.same .nil))))))
  · rintro ⟨exponent_, result_, square_⟩
    show Blk _ _ _ _ _ [some (.im (toD a_)), some (.im (toD exponent_)), some (.im (toD modulus_)), some (.im (toD result_)), some (.im (toD square_)), none] ((m_u_law_power_k4) (exponent_, result_, square_))
    unfold m_u_law_power_k4
    try refine Blk.nx ?_
    have hr_ := ((ev_var (i := 3) (x := result_) rfl) : EvX K (W0 E) [some (.im (toD a_)), some (.im (toD exponent_)), some (.im (toD modulus_)), some (.im (toD result_)), some (.im (toD square_)), none] _ _)
    exact blk_ret L trivial hr_
noncomputable def m_u_law_inverse (a_ : Int) (prime_ : Int) : Res Int :=
  (((Res.ok a_)).bind fun a1095 => ((((Res.ok prime_)).bind fun (t1092 : Int) => ((Res.ok (2 : Int))).bind fun (t1093 : Int) => Res.ok (t1092 - t1093)).bind fun a1097 => (((Res.ok prime_)).bind fun a1099 => (Res.ok ()).bind fun a1100 => Res.ok (a1099, a1100)).bind fun a1098 => Res.ok (a1097, a1098)).bind fun a1096 => Res.ok (a1095, a1096)).bind fun p1094 => m_u_law_power p1094.1 p1094.2.1 p1094.2.2.1
theorem ok_u_law_inverse {P : Program} {w : World} {K : PySem.W.Frag} {mg : Str → Option Value} {base : Heap} (T : Facts K mg) {fd : FuncData} (F : FnP K "_law_inverse" "_law_inverse" s_u_law_inverse (He.ga K "_law_inverse") fd) :
    FnOk P w K mg base (L2.CX P w) 2 (He.ga K "_law_inverse") fd ["a", "prime"] (spM K (fun (p : Int × Int × Unit) => m_u_law_inverse p.1 p.2.1)) := by
  obtain ⟨fd_u_law_power, F_u_law_power⟩ := T.d_u_law_power
  have G_u_law_power := ok_u_law_power (P := P) (w := w) (base := base) T F_u_law_power
  have b_u_law_power : Binds K fd_u_law_power ["a", "exponent", "modulus"] [] := F_u_law_power.bindsN fun _ _ _ _ _ _ us hl => match us, hl with | [_, _, _], _ => rfl
  refine fn_ok F sc_u_law_inverse (fun y => rfl) (fun cdv A outer s H E hr => ?_)
  refine ⟨_, (pss_one (ps_ret (pe_callS G_u_law_power (hr.mono (by decide)) rfl T.g_u_law_power F_u_law_power.kp b_u_law_power (fun σ => passAt (takes_of rfl rfl rfl rfl) σ) (pa_cons (pv 0) (pa_cons (pe_op op_sub (pv 1) pe_int) (pa_cons (pv 1) pa_nil)))))), ?_⟩
  rintro ⟨a_, prime_, ⟨⟩⟩ F0 H0 Q KP L
  show Blk K F0 H0 KP _ [some (.im (toD a_)), some (.im (toD prime_))] (m_u_law_inverse a_ prime_)
  unfold m_u_law_inverse
  have hr_ := ((ev_call (f := (fun (p : Int × Int × Int × Unit) => m_u_law_power p.1 p.2.1 p.2.2.1)) (ea_cons (ev_var (i := 0) (x := a_) rfl) (ea_cons (ev_op (opx_I0 (g := fun i j => i - j)) mild_ok (ev_var (i := 1) (x := prime_) rfl) (ev_int (i := 2))) (ea_cons (ev_var (i := 1) (x := prime_) rfl) ea_nil)))) : EvX K (W0 E) [some (.im (toD a_)), some (.im (toD prime_))] _ _)
  exact blk_ret L trivial hr_
noncomputable def m_u_law_residue (cell_ : Int) (prime_ : Int) : Res Int :=
  ((((Res.ok cell_)).bind fun a1102 => (Res.ok ()).bind fun a1103 => Res.ok (a1102, a1103)).bind fun p1101 => Res.ok (Int.natAbs p1101.1 : Int)).bind fun (rest_ : Int) =>   (((Res.ok rest_)).bind fun (t1106 : Int) => (((Res.ok (10 : Int))).bind fun (t1104 : Int) => ((Res.ok (18 : Int))).bind fun (t1105 : Int) => Res.ok (t1104 ^ t1105.toNat)).bind fun (t1107 : Int) => Res.ok (decide (t1107 ≤ t1106))).bind fun b => cond b   (((Res.ok rest_)).bind fun (t1108 : Int) => ((Res.ok prime_)).bind fun (t1109 : Int) => Res.need (0 < t1109) (Res.ok (t1108 % t1109)))   (((((Res.ok rest_)).bind fun (t1110 : Int) => ((Res.ok (3 : Int))).bind fun (t1111 : Int) => Res.ok (t1110 % t1111)).bind fun (t1112 : Int) => ((Res.ok (1 : Int))).bind fun (t1113 : Int) => Res.ok (decide (t1112 = t1113))).bind fun b => cond b   ((((((Res.ok (0 : Int))).bind fun a1119 => (((Res.ok (1 : Int))).bind fun a1121 => (((Res.ok (2 : Int))).bind fun a1123 => ((((Res.ok prime_)).bind fun (t1114 : Int) => ((Res.ok (1 : Int))).bind fun (t1115 : Int) => Res.ok (t1114 - t1115)).bind fun a1125 => ((((Res.ok prime_)).bind fun (t1116 : Int) => ((Res.ok (2 : Int))).bind fun (t1117 : Int) => Res.ok (t1116 - t1117)).bind fun a1127 => (((Res.ok (3 : Int))).bind fun a1129 => (Res.ok ()).bind fun a1130 => Res.ok (a1129, a1130)).bind fun a1128 => Res.ok (a1127, a1128)).bind fun a1126 => Res.ok (a1125, a1126)).bind fun a1124 => Res.ok (a1123, a1124)).bind fun a1122 => Res.ok (a1121, a1122)).bind fun a1120 => Res.ok (a1119, a1120)).bind fun p1118 => Res.ok ([p1118.1, p1118.2.1, p1118.2.2.1, p1118.2.2.2.1, p1118.2.2.2.2.1, p1118.2.2.2.2.2.1] : List Int)).bind fun (t1135 : (List Int)) => ((((Res.ok rest_)).bind fun (t1131 : Int) => ((Res.ok (3 : Int))).bind fun (t1132 : Int) => Res.ok (t1131 / t1132)).bind fun (t1133 : Int) => ((Res.ok (6 : Int))).bind fun (t1134 : Int) => Res.ok (t1133 % t1134)).bind fun (t1136 : Int) => idx t1135 t1136).bind fun (t1137 : Int) => ((Res.ok prime_)).bind fun (t1138 : Int) => Res.need (0 < t1138) (Res.ok (t1137 % t1138)))   (((((((Res.ok rest_)).bind fun (t1139 : Int) => ((Res.ok (48271 : Int))).bind fun (t1140 : Int) => Res.ok (t1139 * t1140)).bind fun (t1141 : Int) => ((Res.ok (69621 : Int))).bind fun (t1142 : Int) => Res.ok (t1141 * t1142)).bind fun (t1147 : Int) => ((((Res.ok (7919 : Int))).bind fun (t1143 : Int) => ((Res.ok rest_)).bind fun (t1144 : Int) => Res.ok (t1143 * t1144)).bind fun (t1145 : Int) => ((Res.ok rest_)).bind fun (t1146 : Int) => Res.need (CMulX t1145 t1146) (Res.ok (t1145 * t1146))).bind fun (t1148 : Int) => Res.ok (t1147 + t1148)).bind fun (t1149 : Int) => ((Res.ok (5 : Int))).bind fun (t1150 : Int) => Res.ok (t1149 + t1150)).bind fun (t1151 : Int) => ((Res.ok prime_)).bind fun (t1152 : Int) => Res.need (0 < t1152) (Res.ok (t1151 % t1152))))
theorem ok_u_law_residue {P : Program} {w : World} {K : PySem.W.Frag} {mg : Str → Option Value} {base : Heap} (T : Facts K mg) {fd : FuncData} (F : FnP K "_law_residue" "_law_residue" s_u_law_residue (He.ga K "_law_residue") fd) :
    FnOk P w K mg base (L2.CX P w) 1 (He.ga K "_law_residue") fd ["cell", "prime"] (spM K (fun (p : Int × Int × Unit) => m_u_law_residue p.1 p.2.1)) := by
  refine fn_ok F sc_u_law_residue (fun y => rfl) (fun cdv A outer s H E hr => ?_)
  refine ⟨_, (pss_cons (ps_set (i := 2) sc_u_law_residue.nd rfl (Or.inl rfl) (pe_callB call_abs (by rfl) T.n_abs (by decide +kernel) (pa_cons (pv 0) pa_nil))) (pss_cons (ps_if (pt_cmpR op_ge (pv 2) (pe_op op_pow pe_int pe_int) (nomark _)) (pss_one (ps_ret (pe_op op_mod (pv 2) (pv 1)))) pss_nil) (pss_cons (ps_if (pt_cmpR op_eq (pe_op op_mod (pv 2) pe_int) pe_int (nomark _)) (pss_one (ps_ret (pe_op op_mod (pe_ix (cr_ixL rfl) (pe_lst (pa_cons pe_int (pa_cons pe_int (pa_cons pe_int (pa_cons (pe_op op_sub (pv 1) pe_int) (pa_cons (pe_op op_sub (pv 1) pe_int) (pa_cons pe_int pa_nil))))))) (pe_op op_mod (pe_op op_fdiv (pv 2) pe_int) pe_int) (fun _ _ => rfl)) (pv 1)))) pss_nil) (pss_one (ps_ret (pe_op op_mod (pe_op op_add (pe_op op_add (pe_op op_mul (pe_op op_mul (pv 2) pe_int) pe_int) (pe_op op_mulX (pe_op op_mul pe_int (pv 2)) (pv 2))) pe_int) (pv 1))))))), ?_⟩
  rintro ⟨cell_, prime_, ⟨⟩⟩ F0 H0 Q KP L
  show Blk K F0 H0 KP _ [some (.im (toD cell_)), some (.im (toD prime_)), none] (m_u_law_residue cell_ prime_)
  unfold m_u_law_residue
  have hs_ := ((ev_cb cx_abs (fun _ _ h => nomatch h) (ea_cons (ev_var (i := 0) (x := cell_) rfl) ea_nil)) : EvX K (W0 E) [some (.im (toD cell_)), some (.im (toD prime_)), none] _ _)
  refine blk_seq (blk_set (i := 2) L trivial hs_ fun rest_ => ?_)
  show Blk _ _ _ _ _ [some (.im (toD cell_)), some (.im (toD prime_)), some (.im (toD rest_))] _
  try refine Blk.nx ?_
  have ht_ := ((et_test (ev_op (opx_B0 (g := fun i j => decide (j ≤ i))) mild_ok (ev_var (i := 2) (x := rest_) rfl) (ev_opI (C := CPow) (g := fun i j => i ^ j.toNat) (fun x y h1 h2 => by cases h1; cases h2; exact ⟨by decide, by decide, by decide⟩) (ev_int (i := 10)) (ev_int (i := 18))))) : EvT K (W0 E) [some (.im (toD cell_)), some (.im (toD prime_)), some (.im (toD rest_))] _ _)
  refine blk_seq (blk_if2 L trivial ht_ ?_ ?_)
  · have hr_ := ((ev_op (opx_I (C := (fun _ j => 0 < j)) (g := fun i j => i % j)) mild_need (ev_var (i := 2) (x := rest_) rfl) (ev_var (i := 1) (x := prime_) rfl)) : EvX K (W0 E) [some (.im (toD cell_)), some (.im (toD prime_)), some (.im (toD rest_))] _ _)
    exact blk_ret L trivial hr_
  · refine blk_nil ?_
    try refine Blk.nx ?_
    have ht_ := ((et_test (ev_op opx_eqI mild_ok (ev_opI (C := (fun _ j => 0 < j)) (g := fun i j => i % j) (fun x y _ h => by cases h; (show (0 : Int) < _; decide)) (ev_var (i := 2) (x := rest_) rfl) (ev_int (i := 3))) (ev_int (i := 1)))) : EvT K (W0 E) [some (.im (toD cell_)), some (.im (toD prime_)), some (.im (toD rest_))] _ _)
    refine blk_seq (blk_if2 L trivial ht_ ?_ ?_)
    · have hr_ := ((ev_op (opx_I (C := (fun _ j => 0 < j)) (g := fun i j => i % j)) mild_need (ev_op opx_ixL (fun x y => idx_mild x y) (ev_ofN (en_lst (f := (fun y => ([y.1, y.2.1, y.2.2.1, y.2.2.2.1, y.2.2.2.2.1, y.2.2.2.2.2.1] : List Int))) (ea_cons (ev_int (i := 0)) (ea_cons (ev_int (i := 1)) (ea_cons (ev_int (i := 2)) (ea_cons (ev_op (opx_I0 (g := fun i j => i - j)) mild_ok (ev_var (i := 1) (x := prime_) rfl) (ev_int (i := 1))) (ea_cons (ev_op (opx_I0 (g := fun i j => i - j)) mild_ok (ev_var (i := 1) (x := prime_) rfl) (ev_int (i := 2))) (ea_cons (ev_int (i := 3)) ea_nil)))))) (fun _ => rfl) (fun _ => by show 6 ≤ 100000; decide))) (ev_opI (C := (fun _ j => 0 < j)) (g := fun i j => i % j) (fun x y _ h => by cases h; (show (0 : Int) < _; decide)) (ev_opI (C := CDiv) (g := fun i j => i / j) (fun x y _ h => by cases h; exact ⟨by decide, by decide⟩) (ev_var (i := 2) (x := rest_) rfl) (ev_int (i := 3))) (ev_int (i := 6)))) (ev_var (i := 1) (x := prime_) rfl)) : EvX K (W0 E) [some (.im (toD cell_)), some (.im (toD prime_)), some (.im (toD rest_))] _ _)
      exact blk_ret L trivial hr_
    · refine blk_nil ?_
      try refine Blk.nx ?_
      have hr_ := ((ev_op (opx_I (C := (fun _ j => 0 < j)) (g := fun i j => i % j)) mild_need (ev_op (opx_I0 (g := fun i j => i + j)) mild_ok (ev_op (opx_I0 (g := fun i j => i + j)) mild_ok (ev_opI (C := CMul) (g := fun i j => i * j) (fun x y _ h => by cases h; exact .inr (by decide)) (ev_opI (C := CMul) (g := fun i j => i * j) (fun x y _ h => by cases h; exact .inr (by decide)) (ev_var (i := 2) (x := rest_) rfl) (ev_int (i := 48271))) (ev_int (i := 69621))) (ev_op (opx_I (C := CMulX) (g := fun i j => i * j)) mild_need (ev_opI (C := CMul) (g := fun i j => i * j) (fun x y h _ => by cases h; exact .inl (by decide)) (ev_int (i := 7919)) (ev_var (i := 2) (x := rest_) rfl)) (ev_var (i := 2) (x := rest_) rfl))) (ev_int (i := 5))) (ev_var (i := 1) (x := prime_) rfl)) : EvX K (W0 E) [some (.im (toD cell_)), some (.im (toD prime_)), some (.im (toD rest_))] _ _)
      exact blk_ret L trivial hr_
noncomputable def m_u_law_class (a_ : Int) (prime_ : Int) : Res Int :=
  ((((Res.ok a_)).bind fun a1158 => (((((Res.ok prime_)).bind fun (t1153 : Int) => ((Res.ok (1 : Int))).bind fun (t1154 : Int) => Res.ok (t1153 - t1154)).bind fun (t1155 : Int) => ((Res.ok (2 : Int))).bind fun (t1156 : Int) => Res.ok (t1155 / t1156)).bind fun a1160 => (((Res.ok prime_)).bind fun a1162 => (Res.ok ()).bind fun a1163 => Res.ok (a1162, a1163)).bind fun a1161 => Res.ok (a1160, a1161)).bind fun a1159 => Res.ok (a1158, a1159)).bind fun p1157 => m_u_law_power p1157.1 p1157.2.1 p1157.2.2.1).bind fun (value_ : Int) =>   (((Res.ok value_)).bind fun (t1166 : Int) => (((Res.ok prime_)).bind fun (t1164 : Int) => ((Res.ok (1 : Int))).bind fun (t1165 : Int) => Res.ok (t1164 - t1165)).bind fun (t1167 : Int) => Res.ok (decide (t1166 = t1167))).bind fun b => cond b   (((Res.ok (1 : Int))).bind fun (t1168 : Int) => Res.ok (-t1168))   ((Res.ok value_))
theorem ok_u_law_class {P : Program} {w : World} {K : PySem.W.Frag} {mg : Str → Option Value} {base : Heap} (T : Facts K mg) {fd : FuncData} (F : FnP K "_law_class" "_law_class" s_u_law_class (He.ga K "_law_class") fd) :
    FnOk P w K mg base (L2.CX P w) 2 (He.ga K "_law_class") fd ["a", "prime"] (spM K (fun (p : Int × Int × Unit) => m_u_law_class p.1 p.2.1)) := by
  obtain ⟨fd_u_law_power, F_u_law_power⟩ := T.d_u_law_power
  have G_u_law_power := ok_u_law_power (P := P) (w := w) (base := base) T F_u_law_power
  have b_u_law_power : Binds K fd_u_law_power ["a", "exponent", "modulus"] [] := F_u_law_power.bindsN fun _ _ _ _ _ _ us hl => match us, hl with | [_, _, _], _ => rfl
  refine fn_ok F sc_u_law_class (fun y => rfl) (fun cdv A outer s H E hr => ?_)
  refine ⟨_, (pss_cons (ps_set (i := 2) sc_u_law_class.nd rfl (Or.inl rfl) (pe_callS G_u_law_power (hr.mono (by decide)) rfl T.g_u_law_power F_u_law_power.kp b_u_law_power (fun σ => passAt (takes_of rfl rfl rfl rfl) σ) (pa_cons (pv 0) (pa_cons (pe_op op_fdiv (pe_op op_sub (pv 1) pe_int) pe_int) (pa_cons (pv 1) pa_nil))))) (pss_cons (ps_if (pt_cmpR op_eq (pv 2) (pe_op op_sub (pv 1) pe_int) (nomark _)) (pss_one (ps_ret (pe_un un_neg pe_int))) pss_nil) (pss_one (ps_ret (pv 2))))), ?_⟩
  rintro ⟨a_, prime_, ⟨⟩⟩ F0 H0 Q KP L
  show Blk K F0 H0 KP _ [some (.im (toD a_)), some (.im (toD prime_)), none] (m_u_law_class a_ prime_)
  unfold m_u_law_class
  have hs_ := ((ev_call (f := (fun (p : Int × Int × Int × Unit) => m_u_law_power p.1 p.2.1 p.2.2.1)) (ea_cons (ev_var (i := 0) (x := a_) rfl) (ea_cons (ev_opI (C := CDiv) (g := fun i j => i / j) (fun x y _ h => by cases h; exact ⟨by decide, by decide⟩) (ev_op (opx_I0 (g := fun i j => i - j)) mild_ok (ev_var (i := 1) (x := prime_) rfl) (ev_int (i := 1))) (ev_int (i := 2))) (ea_cons (ev_var (i := 1) (x := prime_) rfl) ea_nil)))) : EvX K (W0 E) [some (.im (toD a_)), some (.im (toD prime_)), none] _ _)
  refine blk_seq (blk_set (i := 2) L trivial hs_ fun value_ => ?_)
  show Blk _ _ _ _ _ [some (.im (toD a_)), some (.im (toD prime_)), some (.im (toD value_))] _
  try refine Blk.nx ?_
  have ht_ := ((et_test (ev_op opx_eqI mild_ok (ev_var (i := 2) (x := value_) rfl) (ev_op (opx_I0 (g := fun i j => i - j)) mild_ok (ev_var (i := 1) (x := prime_) rfl) (ev_int (i := 1))))) : EvT K (W0 E) [some (.im (toD a_)), some (.im (toD prime_)), some (.im (toD value_))] _ _)
  refine blk_seq (blk_if2 L trivial ht_ ?_ ?_)
  · have hr_ := ((ev_un (g := fun i => -i) (ev_int (i := 1))) : EvX K (W0 E) [some (.im (toD a_)), some (.im (toD prime_)), some (.im (toD value_))] _ _)
    exact blk_ret L trivial hr_
  · refine blk_nil ?_
    try refine Blk.nx ?_
    have hr_ := ((ev_var (i := 2) (x := value_) rfl) : EvX K (W0 E) [some (.im (toD a_)), some (.im (toD prime_)), some (.im (toD value_))] _ _)
    exact blk_ret L trivial hr_
noncomputable def m_u_law_edwards_prime (cell_ : Int) : Res Int :=
  ((((((Res.ok cell_)).bind fun a1170 => (Res.ok ()).bind fun a1171 => Res.ok (a1170, a1171)).bind fun p1169 => Res.ok (Int.natAbs p1169.1 : Int)).bind fun (t1172 : Int) => ((Res.ok (7 : Int))).bind fun (t1173 : Int) => Res.ok (t1172 % t1173)).bind fun (t1174 : Int) => ((Res.ok (3 : Int))).bind fun (t1175 : Int) => Res.ok (decide (t1174 = t1175))).bind fun b => cond b   ((((((Res.ok (2 : Int))).bind fun (t1176 : Int) => ((Res.ok (64 : Int))).bind fun (t1177 : Int) => Res.ok (t1176 ^ t1177.toNat)).bind fun (t1180 : Int) => (((Res.ok (2 : Int))).bind fun (t1178 : Int) => ((Res.ok (64 : Int))).bind fun (t1179 : Int) => Res.ok (t1178 ^ t1179.toNat)).bind fun (t1181 : Int) => Res.need (CMulX t1180 t1181) (Res.ok (t1180 * t1181))).bind fun (t1184 : Int) => (((Res.ok (2 : Int))).bind fun (t1182 : Int) => ((Res.ok (64 : Int))).bind fun (t1183 : Int) => Res.ok (t1182 ^ t1183.toNat)).bind fun (t1185 : Int) => Res.need (CMulX t1184 t1185) (Res.ok (t1184 * t1185))).bind fun (high_ : Int) =>   ((((((Res.ok high_)).bind fun (t1188 : Int) => (((Res.ok (2 : Int))).bind fun (t1186 : Int) => ((Res.ok (63 : Int))).bind fun (t1187 : Int) => Res.ok (t1186 ^ t1187.toNat)).bind fun (t1189 : Int) => Res.need (CMulX t1188 t1189) (Res.ok (t1188 * t1189))).bind fun (t1190 : Int) => ((Res.ok (19 : Int))).bind fun (t1191 : Int) => Res.ok (t1190 - t1191)).bind fun a1211 => ((((((Res.ok high_)).bind fun (t1194 : Int) => (((Res.ok (2 : Int))).bind fun (t1192 : Int) => ((Res.ok (64 : Int))).bind fun (t1193 : Int) => Res.ok (t1192 ^ t1193.toNat)).bind fun (t1195 : Int) => Res.need (CMulX t1194 t1195) (Res.ok (t1194 * t1195))).bind fun (t1198 : Int) => (((Res.ok (2 : Int))).bind fun (t1196 : Int) => ((Res.ok (32 : Int))).bind fun (t1197 : Int) => Res.ok (t1196 ^ t1197.toNat)).bind fun (t1199 : Int) => Res.ok (t1198 - t1199)).bind fun (t1200 : Int) => ((Res.ok (977 : Int))).bind fun (t1201 : Int) => Res.ok (t1200 - t1201)).bind fun a1213 => (((((Res.ok (2 : Int))).bind fun (t1202 : Int) => ((Res.ok (61 : Int))).bind fun (t1203 : Int) => Res.ok (t1202 ^ t1203.toNat)).bind fun (t1204 : Int) => ((Res.ok (1 : Int))).bind fun (t1205 : Int) => Res.ok (t1204 - t1205)).bind fun a1215 => (((((Res.ok (2 : Int))).bind fun (t1206 : Int) => ((Res.ok (31 : Int))).bind fun (t1207 : Int) => Res.ok (t1206 ^ t1207.toNat)).bind fun (t1208 : Int) => ((Res.ok (1 : Int))).bind fun (t1209 : Int) => Res.ok (t1208 - t1209)).bind fun a1217 => (Res.ok ()).bind fun a1218 => Res.ok (a1217, a1218)).bind fun a1216 => Res.ok (a1215, a1216)).bind fun a1214 => Res.ok (a1213, a1214)).bind fun a1212 => Res.ok (a1211, a1212)).bind fun p1210 => Res.ok ([p1210.1, p1210.2.1, p1210.2.2.1, p1210.2.2.2.1] : List Int)).bind fun (t1226 : (List Int)) => ((((((Res.ok cell_)).bind fun a1220 => (Res.ok ()).bind fun a1221 => Res.ok (a1220, a1221)).bind fun p1219 => Res.ok (Int.natAbs p1219.1 : Int)).bind fun (t1222 : Int) => ((Res.ok (7 : Int))).bind fun (t1223 : Int) => Res.ok (t1222 / t1223)).bind fun (t1224 : Int) => ((Res.ok (4 : Int))).bind fun (t1225 : Int) => Res.ok (t1224 % t1225)).bind fun (t1227 : Int) => idx t1226 t1227)   (((((Res.ok cell_)).bind fun (t1228 : Int) => ((Res.ok (7 : Int))).bind fun (t1229 : Int) => Res.ok (t1228 / t1229)).bind fun a1231 => (((Res.ok (5 : Int))).bind fun a1233 => (Res.ok ()).bind fun a1234 => Res.ok (a1233, a1234)).bind fun a1232 => Res.ok (a1231, a1232)).bind fun p1230 => m_u_law_prime p1230.1 p1230.2.1)
theorem ok_u_law_edwards_prime {P : Program} {w : World} {K : PySem.W.Frag} {mg : Str → Option Value} {base : Heap} (T : Facts K mg) {fd : FuncData} (F : FnP K "_law_edwards_prime" "_law_edwards_prime" s_u_law_edwards_prime (He.ga K "_law_edwards_prime") fd) :
    FnOk P w K mg base (L2.CX P w) 3 (He.ga K "_law_edwards_prime") fd ["cell"] (spM K (fun (p : Int × Unit) => m_u_law_edwards_prime p.1)) := by
  obtain ⟨fd_u_law_prime, F_u_law_prime⟩ := T.d_u_law_prime
  have G_u_law_prime := ok_u_law_prime (P := P) (w := w) (base := base) T F_u_law_prime
  have b_u_law_prime : Binds K fd_u_law_prime ["cell", "least"] [] := F_u_law_prime.bindsN fun _ _ _ _ _ _ us hl => match us, hl with | [_, _], _ => rfl
  refine fn_ok F sc_u_law_edwards_prime (fun y => rfl) (fun cdv A outer s H E hr => ?_)
  refine ⟨_, (pss_cons (ps_if (pt_cmpR op_eq (pe_op op_mod (pe_callB call_abs (by rfl) T.n_abs (by decide +kernel) (pa_cons (pv 0) pa_nil)) pe_int) pe_int (nomark _)) (pss_cons (ps_set (i := 1) sc_u_law_edwards_prime.nd rfl (Or.inl rfl) (pe_op op_mulX (pe_op op_mulX (pe_op op_pow pe_int pe_int) (pe_op op_pow pe_int pe_int)) (pe_op op_pow pe_int pe_int))) (pss_one (ps_ret (pe_ix (cr_ixL rfl) (pe_lst (pa_cons (pe_op op_sub (pe_op op_mulX (pv 1) (pe_op op_pow pe_int pe_int)) pe_int) (pa_cons (pe_op op_sub (pe_op op_sub (pe_op op_mulX (pv 1) (pe_op op_pow pe_int pe_int)) (pe_op op_pow pe_int pe_int)) pe_int) (pa_cons (pe_op op_sub (pe_op op_pow pe_int pe_int) pe_int) (pa_cons (pe_op op_sub (pe_op op_pow pe_int pe_int) pe_int) pa_nil))))) (pe_op op_mod (pe_op op_fdiv (pe_callB call_abs (by rfl) T.n_abs (by decide +kernel) (pa_cons (pv 0) pa_nil)) pe_int) pe_int) (fun _ _ => rfl))))) pss_nil) (pss_one (ps_ret (pe_callS G_u_law_prime (hr.mono (by decide)) rfl T.g_u_law_prime F_u_law_prime.kp b_u_law_prime (fun σ => passAt (takes_of rfl rfl rfl rfl) σ) (pa_cons (pe_op op_fdiv (pv 0) pe_int) (pa_cons pe_int pa_nil)))))), ?_⟩
  rintro ⟨cell_, ⟨⟩⟩ F0 H0 Q KP L
  show Blk K F0 H0 KP _ [some (.im (toD cell_)), none] (m_u_law_edwards_prime cell_)
  unfold m_u_law_edwards_prime
  have ht_ := ((et_test (ev_op opx_eqI mild_ok (ev_opI (C := (fun _ j => 0 < j)) (g := fun i j => i % j) (fun x y _ h => by cases h; (show (0 : Int) < _; decide)) (ev_cb cx_abs (fun _ _ h => nomatch h) (ea_cons (ev_var (i := 0) (x := cell_) rfl) ea_nil)) (ev_int (i := 7))) (ev_int (i := 3)))) : EvT K (W0 E) [some (.im (toD cell_)), none] _ _)
  refine blk_seq (blk_if2 L trivial ht_ ?_ ?_)
  · have hs_ := ((ev_op (opx_I (C := CMulX) (g := fun i j => i * j)) mild_need (ev_op (opx_I (C := CMulX) (g := fun i j => i * j)) mild_need (ev_opI (C := CPow) (g := fun i j => i ^ j.toNat) (fun x y h1 h2 => by cases h1; cases h2; exact ⟨by decide, by decide, by decide⟩) (ev_int (i := 2)) (ev_int (i := 64))) (ev_opI (C := CPow) (g := fun i j => i ^ j.toNat) (fun x y h1 h2 => by cases h1; cases h2; exact ⟨by decide, by decide, by decide⟩) (ev_int (i := 2)) (ev_int (i := 64)))) (ev_opI (C := CPow) (g := fun i j => i ^ j.toNat) (fun x y h1 h2 => by cases h1; cases h2; exact ⟨by decide, by decide, by decide⟩) (ev_int (i := 2)) (ev_int (i := 64)))) : EvX K (W0 E) [some (.im (toD cell_)), none] _ _)
    refine blk_seq (blk_set (i := 1) L trivial hs_ fun high_ => ?_)
    show Blk _ _ _ _ _ [some (.im (toD cell_)), some (.im (toD high_))] _
    try refine Blk.nx ?_
    have hr_ := ((ev_op opx_ixL (fun x y => idx_mild x y) (ev_ofN (en_lst (f := (fun y => ([y.1, y.2.1, y.2.2.1, y.2.2.2.1] : List Int))) (ea_cons (ev_op (opx_I0 (g := fun i j => i - j)) mild_ok (ev_op (opx_I (C := CMulX) (g := fun i j => i * j)) mild_need (ev_var (i := 1) (x := high_) rfl) (ev_opI (C := CPow) (g := fun i j => i ^ j.toNat) (fun x y h1 h2 => by cases h1; cases h2; exact ⟨by decide, by decide, by decide⟩) (ev_int (i := 2)) (ev_int (i := 63)))) (ev_int (i := 19))) (ea_cons (ev_op (opx_I0 (g := fun i j => i - j)) mild_ok (ev_op (opx_I0 (g := fun i j => i - j)) mild_ok (ev_op (opx_I (C := CMulX) (g := fun i j => i * j)) mild_need (ev_var (i := 1) (x := high_) rfl) (ev_opI (C := CPow) (g := fun i j => i ^ j.toNat) (fun x y h1 h2 => by cases h1; cases h2; exact ⟨by decide, by decide, by decide⟩) (ev_int (i := 2)) (ev_int (i := 64)))) (ev_opI (C := CPow) (g := fun i j => i ^ j.toNat) (fun x y h1 h2 => by cases h1; cases h2; exact ⟨by decide, by decide, by decide⟩) (ev_int (i := 2)) (ev_int (i := 32)))) (ev_int (i := 977))) (ea_cons (ev_op (opx_I0 (g := fun i j => i - j)) mild_ok (ev_opI (C := CPow) (g := fun i j => i ^ j.toNat) (fun x y h1 h2 => by cases h1; cases h2; exact ⟨by decide, by decide, by decide⟩) (ev_int (i := 2)) (ev_int (i := 61))) (ev_int (i := 1))) (ea_cons (ev_op (opx_I0 (g := fun i j => i - j)) mild_ok (ev_opI (C := CPow) (g := fun i j => i ^ j.toNat) (fun x y h1 h2 => by cases h1; cases h2; exact ⟨by decide, by decide, by decide⟩) (ev_int (i := 2)) (ev_int (i := 31))) (ev_int (i := 1))) ea_nil)))) (fun _ => rfl) (fun _ => by show 4 ≤ 100000; decide))) (ev_opI (C := (fun _ j => 0 < j)) (g := fun i j => i % j) (fun x y _ h => by cases h; (show (0 : Int) < _; decide)) (ev_opI (C := CDiv) (g := fun i j => i / j) (fun x y _ h => by cases h; exact ⟨by decide, by decide⟩) (ev_cb cx_abs (fun _ _ h => nomatch h) (ea_cons (ev_var (i := 0) (x := cell_) rfl) ea_nil)) (ev_int (i := 7))) (ev_int (i := 4)))) : EvX K (W0 E) [some (.im (toD cell_)), some (.im (toD high_))] _ _)
    exact blk_ret L trivial hr_
  · refine blk_nil ?_
    try refine Blk.nx ?_
    have hr_ := ((ev_call (f := (fun (p : Int × Int × Unit) => m_u_law_prime p.1 p.2.1)) (ea_cons (ev_opI (C := CDiv) (g := fun i j => i / j) (fun x y _ h => by cases h; exact ⟨by decide, by decide⟩) (ev_var (i := 0) (x := cell_) rfl) (ev_int (i := 7))) (ea_cons (ev_int (i := 5)) ea_nil))) : EvX K (W0 E) [some (.im (toD cell_)), none] _ _)
    exact blk_ret L trivial hr_
noncomputable def m_u_law_numbers_l1 (prime_ : Int) (k1 : Int → Res (T2 Int Int)) : List Int → Int → Res (T2 Int Int)
  | [], s => k1 s
  | x1266 :: r1, lowest_ =>   (fun (k_ : Int) => (((((Res.ok lowest_)).bind fun a1268 => (((Res.ok prime_)).bind fun a1270 => (Res.ok ()).bind fun a1271 => Res.ok (a1270, a1271)).bind fun a1269 => Res.ok (a1268, a1269)).bind fun p1267 => m_u_law_class p1267.1 p1267.2.1).bind fun (t1273 : Int) => (((Res.ok (1 : Int))).bind fun (t1272 : Int) => Res.ok (-t1272)).bind fun (t1274 : Int) => Res.ok (decide (t1273 = t1274))).bind fun b => cond b   (k1 lowest_)   ((((Res.ok lowest_)).bind fun (t1275 : Int) => ((Res.ok (1 : Int))).bind fun (t1276 : Int) => Res.ok (t1275 + t1276)).bind fun (lowest_ : Int) =>   m_u_law_numbers_l1 prime_ k1 r1 lowest_)) x1266
noncomputable def m_u_law_numbers_k3 (prime_ : Int) (root_ : Int) (other_ : Int) : Int → Res (T2 Int Int) := fun lowest_ =>   (((((Res.ok root_)).bind fun (t1277 : Int) => ((Res.ok root_)).bind fun (t1278 : Int) => Res.need (CMulX t1277 t1278) (Res.ok (t1277 * t1278))).bind fun (t1279 : Int) => ((Res.ok prime_)).bind fun (t1280 : Int) => Res.need (0 < t1280) (Res.ok (t1279 % t1280))).bind fun a1288 => ((((((Res.ok lowest_)).bind fun (t1281 : Int) => ((Res.ok other_)).bind fun (t1282 : Int) => Res.need (CMulX t1281 t1282) (Res.ok (t1281 * t1282))).bind fun (t1283 : Int) => ((Res.ok other_)).bind fun (t1284 : Int) => Res.need (CMulX t1283 t1284) (Res.ok (t1283 * t1284))).bind fun (t1285 : Int) => ((Res.ok prime_)).bind fun (t1286 : Int) => Res.need (0 < t1286) (Res.ok (t1285 % t1286))).bind fun a1290 => (Res.ok ()).bind fun a1291 => Res.ok (a1290, a1291)).bind fun a1289 => Res.ok (a1288, a1289)).bind fun p1287 => Res.ok (T2.mk p1287.1 p1287.2.1)
noncomputable def m_u_law_numbers (script_ : (Ro Int)) (at_ : Int) (prime_ : Int) : Res (T2 Int Int) :=
  (((Res.ok (1 : Int))).bind fun (t1247 : Int) => ((((((Res.ok script_)).bind fun a1236 => (((Res.ok at_)).bind fun a1238 => (Res.ok ()).bind fun a1239 => Res.ok (a1238, a1239)).bind fun a1237 => Res.ok (a1236, a1237)).bind fun p1235 => m_u_law_cell p1235.1 p1235.2.1).bind fun a1243 => ((((Res.ok prime_)).bind fun (t1240 : Int) => ((Res.ok (1 : Int))).bind fun (t1241 : Int) => Res.ok (t1240 - t1241)).bind fun a1245 => (Res.ok ()).bind fun a1246 => Res.ok (a1245, a1246)).bind fun a1244 => Res.ok (a1243, a1244)).bind fun p1242 => m_u_law_residue p1242.1 p1242.2.1).bind fun (t1248 : Int) => Res.ok (t1247 + t1248)).bind fun (root_ : Int) =>   (((Res.ok (1 : Int))).bind fun (t1263 : Int) => ((((((Res.ok script_)).bind fun a1252 => ((((Res.ok at_)).bind fun (t1249 : Int) => ((Res.ok (1 : Int))).bind fun (t1250 : Int) => Res.ok (t1249 + t1250)).bind fun a1254 => (Res.ok ()).bind fun a1255 => Res.ok (a1254, a1255)).bind fun a1253 => Res.ok (a1252, a1253)).bind fun p1251 => m_u_law_cell p1251.1 p1251.2.1).bind fun a1259 => ((((Res.ok prime_)).bind fun (t1256 : Int) => ((Res.ok (1 : Int))).bind fun (t1257 : Int) => Res.ok (t1256 - t1257)).bind fun a1261 => (Res.ok ()).bind fun a1262 => Res.ok (a1261, a1262)).bind fun a1260 => Res.ok (a1259, a1260)).bind fun p1258 => m_u_law_residue p1258.1 p1258.2.1).bind fun (t1264 : Int) => Res.ok (t1263 + t1264)).bind fun (other_ : Int) =>   ((Res.ok (2 : Int))).bind fun (lowest_ : Int) =>   (((Res.ok (100 : Int))).bind fun (t1265 : Int) => Res.need (okRange t1265) (Res.ok (pyRange 0 t1265))).bind fun (xs1292 : List Int) => m_u_law_numbers_l1 prime_ (m_u_law_numbers_k3 prime_ root_ other_) xs1292 lowest_
theorem ok_u_law_numbers {P : Program} {w : World} {K : PySem.W.Frag} {mg : Str → Option Value} {base : Heap} (T : Facts K mg) {fd : FuncData} (F : FnP K "_law_numbers" "_law_numbers" s_u_law_numbers (He.ga K "_law_numbers") fd) :
    FnOk P w K mg base (L2.CX P w) 3 (He.ga K "_law_numbers") fd ["script", "at", "prime"] (spM K (fun (p : (Ro Int) × Int × Int × Unit) => m_u_law_numbers p.1 p.2.1 p.2.2.1)) := by
  obtain ⟨fd_u_law_cell, F_u_law_cell⟩ := T.d_u_law_cell
  have G_u_law_cell := ok_u_law_cell (P := P) (w := w) (base := base) T F_u_law_cell
  have b_u_law_cell : Binds K fd_u_law_cell ["script", "k"] [] := F_u_law_cell.bindsN fun _ _ _ _ _ _ us hl => match us, hl with | [_, _], _ => rfl
  obtain ⟨fd_u_law_class, F_u_law_class⟩ := T.d_u_law_class
  have G_u_law_class := ok_u_law_class (P := P) (w := w) (base := base) T F_u_law_class
  have b_u_law_class : Binds K fd_u_law_class ["a", "prime"] [] := F_u_law_class.bindsN fun _ _ _ _ _ _ us hl => match us, hl with | [_, _], _ => rfl
  obtain ⟨fd_u_law_residue, F_u_law_residue⟩ := T.d_u_law_residue
  have G_u_law_residue := ok_u_law_residue (P := P) (w := w) (base := base) T F_u_law_residue
  have b_u_law_residue : Binds K fd_u_law_residue ["cell", "prime"] [] := F_u_law_residue.bindsN fun _ _ _ _ _ _ us hl => match us, hl with | [_, _], _ => rfl
  refine fn_ok F sc_u_law_numbers (fun y => rfl) (fun cdv A outer s H E hr => ?_)
  refine ⟨_, (pss_cons (ps_set (i := 3) sc_u_law_numbers.nd rfl (Or.inl rfl) (pe_op op_add pe_int (pe_callS G_u_law_residue (hr.mono (by decide)) rfl T.g_u_law_residue F_u_law_residue.kp b_u_law_residue (fun σ => passAt (takes_of rfl rfl rfl rfl) σ) (pa_cons (pe_callS G_u_law_cell (hr.mono (by decide)) rfl T.g_u_law_cell F_u_law_cell.kp b_u_law_cell (fun σ => passAt (takes_of rfl rfl rfl rfl) σ) (pa_cons (pv 0) (pa_cons (pv 1) pa_nil))) (pa_cons (pe_op op_sub (pv 2) pe_int) pa_nil))))) (pss_cons (ps_set (i := 4) sc_u_law_numbers.nd rfl (Or.inl rfl) (pe_op op_add pe_int (pe_callS G_u_law_residue (hr.mono (by decide)) rfl T.g_u_law_residue F_u_law_residue.kp b_u_law_residue (fun σ => passAt (takes_of rfl rfl rfl rfl) σ) (pa_cons (pe_callS G_u_law_cell (hr.mono (by decide)) rfl T.g_u_law_cell F_u_law_cell.kp b_u_law_cell (fun σ => passAt (takes_of rfl rfl rfl rfl) σ) (pa_cons (pv 0) (pa_cons (pe_op op_add (pv 1) pe_int) pa_nil))) (pa_cons (pe_op op_sub (pv 2) pe_int) pa_nil))))) (pss_cons (ps_set (i := 5) sc_u_law_numbers.nd rfl (Or.inl rfl) pe_int) (pss_cons (ps_for (passes_of rfl) rfl (pi_range1 rfl T.n_range (pa_cons pe_int pa_nil)) (pg_name (i := 6) sc_u_law_numbers.nd rfl (Or.inl rfl)) (pss_cons (ps_if (pt_cmpR op_eq (pe_callS G_u_law_class (hr.mono (by decide)) rfl T.g_u_law_class F_u_law_class.kp b_u_law_class (fun σ => passAt (takes_of rfl rfl rfl rfl) σ) (pa_cons (pv 5) (pa_cons (pv 2) pa_nil))) (pe_un un_neg pe_int) (nomark _)) (pss_one ps_break) pss_nil) (pss_one (ps_set (i := 5) sc_u_law_numbers.nd rfl (Or.inl rfl) (pe_op op_add (pv 5) pe_int))))) (pss_one (ps_ret (pe_tup (pa_cons (pe_op op_mod (pe_op op_mulX (pv 3) (pv 3)) (pv 2)) (pa_cons (pe_op op_mod (pe_op op_mulX (pe_op op_mulX (pv 5) (pv 4)) (pv 4)) (pv 2)) pa_nil))))))))), ?_⟩
  rintro ⟨script_, at_, prime_, ⟨⟩⟩ F0 H0 Q KP L
  show Blk K F0 H0 KP _ [some (.im (toD script_)), some (.im (toD at_)), some (.im (toD prime_)), none, none, none, none] (m_u_law_numbers script_ at_ prime_)
  unfold m_u_law_numbers
  have hs_ := ((ev_op (opx_I0 (g := fun i j => i + j)) mild_ok (ev_int (i := 1)) (ev_call (f := (fun (p : Int × Int × Unit) => m_u_law_residue p.1 p.2.1)) (ea_cons (ev_call (f := (fun (p : (Ro Int) × Int × Unit) => m_u_law_cell p.1 p.2.1)) (ea_cons (ev_var (i := 0) (x := script_) rfl) (ea_cons (ev_var (i := 1) (x := at_) rfl) ea_nil))) (ea_cons (ev_op (opx_I0 (g := fun i j => i - j)) mild_ok (ev_var (i := 2) (x := prime_) rfl) (ev_int (i := 1))) ea_nil)))) : EvX K (W0 E) [some (.im (toD script_)), some (.im (toD at_)), some (.im (toD prime_)), none, none, none, none] _ _)
  refine blk_seq (blk_set (i := 3) L trivial hs_ fun root_ => ?_)
  show Blk _ _ _ _ _ [some (.im (toD script_)), some (.im (toD at_)), some (.im (toD prime_)), some (.im (toD root_)), none, none, none] _
  try refine Blk.nx ?_
  have hs_ := ((ev_op (opx_I0 (g := fun i j => i + j)) mild_ok (ev_int (i := 1)) (ev_call (f := (fun (p : Int × Int × Unit) => m_u_law_residue p.1 p.2.1)) (ea_cons (ev_call (f := (fun (p : (Ro Int) × Int × Unit) => m_u_law_cell p.1 p.2.1)) (ea_cons (ev_var (i := 0) (x := script_) rfl) (ea_cons (ev_op (opx_I0 (g := fun i j => i + j)) mild_ok (ev_var (i := 1) (x := at_) rfl) (ev_int (i := 1))) ea_nil))) (ea_cons (ev_op (opx_I0 (g := fun i j => i - j)) mild_ok (ev_var (i := 2) (x := prime_) rfl) (ev_int (i := 1))) ea_nil)))) : EvX K (W0 E) [some (.im (toD script_)), some (.im (toD at_)), some (.im (toD prime_)), some (.im (toD root_)), none, none, none] _ _)
  refine blk_seq (blk_set (i := 4) L trivial hs_ fun other_ => ?_)
  show Blk _ _ _ _ _ [some (.im (toD script_)), some (.im (toD at_)), some (.im (toD prime_)), some (.im (toD root_)), some (.im (toD other_)), none, none] _
  try refine Blk.nx ?_
  have hs_ := ((ev_int (i := 2)) : EvX K (W0 E) [some (.im (toD script_)), some (.im (toD at_)), some (.im (toD prime_)), some (.im (toD root_)), some (.im (toD other_)), none, none] _ _)
  refine blk_seq (blk_set (i := 5) L trivial hs_ fun lowest_ => ?_)
  show Blk _ _ _ _ _ [some (.im (toD script_)), some (.im (toD at_)), some (.im (toD prime_)), some (.im (toD root_)), some (.im (toD other_)), some (.im (toD lowest_)), none] _
  try refine Blk.nx ?_
  have hi_ := ((ei_range1 (ev_int (i := 100))) : EvI K (W0 E) [some (.im (toD script_)), some (.im (toD at_)), some (.im (toD prime_)), some (.im (toD root_)), some (.im (toD other_)), some (.im (toD lowest_)), none] _ _)
  refine blk_seq (blk_for (S := Int) (m_u_law_numbers_l1 prime_ (m_u_law_numbers_k3 prime_ root_ other_)) (m_u_law_numbers_k3 prime_ root_ other_) (fun lowest_ => [some (.im (toD script_)), some (.im (toD at_)), some (.im (toD prime_)), some (.im (toD root_)), some (.im (toD other_)), some (.im (toD lowest_)), none]) lowest_ L trivial hi_ (fun _ => gx_name) (.same (.same (.same (.same (.same (.same (.same .nil))))))) (fun _ => rfl) ?_ ?_)
  · intro F1 L1 hB1 x1266 r1 s_ N_ hN1
    revert s_; intro lowest_
    show Blk _ _ _ _ _ [some (.im (toD script_)), some (.im (toD at_)), some (.im (toD prime_)), some (.im (toD root_)), some (.im (toD other_)), some (.im (toD lowest_)), some (.im (toD x1266))] (m_u_law_numbers_l1 prime_ (m_u_law_numbers_k3 prime_ root_ other_) (x1266 :: r1) lowest_)
    rw [m_u_law_numbers_l1]
    show Blk _ _ _ _ _ _ ((fun (k_ : Int) => _) x1266)
    generalize x1266 = k_
    show Blk _ _ _ _ _ [some (.im (toD script_)), some (.im (toD at_)), some (.im (toD prime_)), some (.im (toD root_)), some (.im (toD other_)), some (.im (toD lowest_)), some (.im (toD k_))] _
    have ht_ := ((et_test (ev_op opx_eqI mild_ok (ev_call (f := (fun (p : Int × Int × Unit) => m_u_law_class p.1 p.2.1)) (ea_cons (ev_var (i := 5) (x := lowest_) rfl) (ea_cons (ev_var (i := 2) (x := prime_) rfl) ea_nil))) (ev_un (g := fun i => -i) (ev_int (i := 1))))) : EvT K (W0 E) [some (.im (toD script_)), some (.im (toD at_)), some (.im (toD prime_)), some (.im (toD root_)), some (.im (toD other_)), some (.im (toD lowest_)), some (.im (toD k_))] _ _)
    refine blk_seq (blk_if2 L1 trivial ht_ ?_ ?_)
    · exact (hB1 lowest_).weak (.same (.same (.same (.same (.same (.same (.drop .nil)))))))
    · refine blk_nil ?_
      try refine Blk.nx ?_
      have hs_ := ((ev_op (opx_I0 (g := fun i j => i + j)) mild_ok (ev_var (i := 5) (x := lowest_) rfl) (ev_int (i := 1))) : EvX K (W0 E) [some (.im (toD script_)), some (.im (toD at_)), some (.im (toD prime_)), some (.im (toD root_)), some (.im (toD other_)), some (.im (toD lowest_)), some (.im (toD k_))] _ _)
      refine blk_set (i := 5) L1 trivial hs_ fun lowest_ => ?_
      show Blk _ _ _ _ _ [some (.im (toD script_)), some (.im (toD at_)), some (.im (toD prime_)), some (.im (toD root_)), some (.im (toD other_)), some (.im (toD lowest_)), some (.im (toD k_))] _
      try refine Blk.nx ?_
      exact (hN1 lowest_).weak (.same (.same (.same (.same (.same (.same (.drop .nil)))))))
  · intro lowest_
    show Blk _ _ _ _ _ [some (.im (toD script_)), some (.im (toD at_)), some (.im (toD prime_)), some (.im (toD root_)), some (.im (toD other_)), some (.im (toD lowest_)), none] ((m_u_law_numbers_k3 prime_ root_ other_) lowest_)
    unfold m_u_law_numbers_k3
    try refine Blk.nx ?_
    have hr_ := ((ev_tup (f := (fun y => T2.mk y.1 y.2.1)) (ea_cons (ev_op (opx_I (C := (fun _ j => 0 < j)) (g := fun i j => i % j)) mild_need (ev_op (opx_I (C := CMulX) (g := fun i j => i * j)) mild_need (ev_var (i := 3) (x := root_) rfl) (ev_var (i := 3) (x := root_) rfl)) (ev_var (i := 2) (x := prime_) rfl)) (ea_cons (ev_op (opx_I (C := (fun _ j => 0 < j)) (g := fun i j => i % j)) mild_need (ev_op (opx_I (C := CMulX) (g := fun i j => i * j)) mild_need (ev_op (opx_I (C := CMulX) (g := fun i j => i * j)) mild_need (ev_var (i := 5) (x := lowest_) rfl) (ev_var (i := 4) (x := other_) rfl)) (ev_var (i := 4) (x := other_) rfl)) (ev_var (i := 2) (x := prime_) rfl)) ea_nil)) (fun _ => rfl) (fun _ => by show 2 ≤ 100000; decide)) : EvX K (W0 E) [some (.im (toD script_)), some (.im (toD at_)), some (.im (toD prime_)), some (.im (toD root_)), some (.im (toD other_)), some (.im (toD lowest_)), none] _ _)
    exact blk_ret L trivial hr_
noncomputable def m_u_law_on (prime_ : Int) (a_ : Int) (d_ : Int) (point_ : D) : Res Bool :=
  (((((Res.ok point_)).bind fun (t1293 : D) => Res.need ((toD t1293).plain = true) (Res.ok (isI "tuple" (toD t1293)))).bind fun (t1294 : Bool) => Res.ok (!t1294)).bind fun b1298 => cond b1298 (Res.ok true) ((((Res.ok point_)).bind fun (t1295 : D) => D.lenR t1295).bind fun (t1296 : Int) => ((Res.ok (2 : Int))).bind fun (t1297 : Int) => Res.ok (!decide (t1296 = t1297)))).bind fun b => cond b   ((Res.ok false))   ((((Res.ok point_)).bind D.asT2).bind fun (u1299 : (T2 D D)) =>   (fun (x_ : D) (y_ : D) => ((((((Res.ok x_)).bind fun a1301 => (Res.ok ()).bind fun a1302 => Res.ok (a1301, a1302)).bind fun p1300 => m_u_law_is_integer p1300.1).bind fun (t1303 : Bool) => Res.ok (!t1303)).bind fun b1320 => cond b1320 (Res.ok true) ((((((Res.ok y_)).bind fun a1305 => (Res.ok ()).bind fun a1306 => Res.ok (a1305, a1306)).bind fun p1304 => m_u_law_is_integer p1304.1).bind fun (t1307 : Bool) => Res.ok (!t1307)).bind fun b1319 => cond b1319 (Res.ok true) (((((Res.ok (0 : Int))).bind fun (t1308 : Int) => (((Res.ok x_)).bind D.asInt).bind fun (t1309 : Int) => (Res.ok (decide (t1308 ≤ t1309))).bind fun b1311 => cond b1311 (((Res.ok prime_)).bind fun (t1310 : Int) => Res.ok (decide (t1309 < t1310))) (Res.ok false)).bind fun (t1312 : Bool) => Res.ok (!t1312)).bind fun b1318 => cond b1318 (Res.ok true) ((((Res.ok (0 : Int))).bind fun (t1313 : Int) => (((Res.ok y_)).bind D.asInt).bind fun (t1314 : Int) => (Res.ok (decide (t1313 ≤ t1314))).bind fun b1316 => cond b1316 (((Res.ok prime_)).bind fun (t1315 : Int) => Res.ok (decide (t1314 < t1315))) (Res.ok false)).bind fun (t1317 : Bool) => Res.ok (!t1317))))).bind fun b => cond b   ((Res.ok false))   (((((((((Res.ok a_)).bind fun (t1321 : Int) => (((Res.ok x_)).bind D.asInt).bind fun (t1322 : Int) => Res.need (CMulX t1321 t1322) (Res.ok (t1321 * t1322))).bind fun (t1323 : Int) => (((Res.ok x_)).bind D.asInt).bind fun (t1324 : Int) => Res.need (CMulX t1323 t1324) (Res.ok (t1323 * t1324))).bind fun (t1327 : Int) => ((((Res.ok y_)).bind D.asInt).bind fun (t1325 : Int) => (((Res.ok y_)).bind D.asInt).bind fun (t1326 : Int) => Res.need (CMulX t1325 t1326) (Res.ok (t1325 * t1326))).bind fun (t1328 : Int) => Res.ok (t1327 + t1328)).bind fun (t1329 : Int) => ((Res.ok (1 : Int))).bind fun (t1330 : Int) => Res.ok (t1329 - t1330)).bind fun (t1339 : Int) => ((((((Res.ok d_)).bind fun (t1331 : Int) => (((Res.ok x_)).bind D.asInt).bind fun (t1332 : Int) => Res.need (CMulX t1331 t1332) (Res.ok (t1331 * t1332))).bind fun (t1333 : Int) => (((Res.ok x_)).bind D.asInt).bind fun (t1334 : Int) => Res.need (CMulX t1333 t1334) (Res.ok (t1333 * t1334))).bind fun (t1335 : Int) => (((Res.ok y_)).bind D.asInt).bind fun (t1336 : Int) => Res.need (CMulX t1335 t1336) (Res.ok (t1335 * t1336))).bind fun (t1337 : Int) => (((Res.ok y_)).bind D.asInt).bind fun (t1338 : Int) => Res.need (CMulX t1337 t1338) (Res.ok (t1337 * t1338))).bind fun (t1340 : Int) => Res.ok (t1339 - t1340)).bind fun (t1341 : Int) => ((Res.ok prime_)).bind fun (t1342 : Int) => Res.need (0 < t1342) (Res.ok (t1341 % t1342))).bind fun (t1343 : Int) => ((Res.ok (0 : Int))).bind fun (t1344 : Int) => Res.ok (decide (t1343 = t1344)))) u1299.a u1299.b)
theorem ok_u_law_on {P : Program} {w : World} {K : PySem.W.Frag} {mg : Str → Option Value} {base : Heap} (T : Facts K mg) {fd : FuncData} (F : FnP K "_law_on" "_law_on" s_u_law_on (He.ga K "_law_on") fd) :
    FnOk P w K mg base (L2.CX P w) 2 (He.ga K "_law_on") fd ["prime", "a", "d", "point"] (spM K (fun (p : Int × Int × Int × D × Unit) => m_u_law_on p.1 p.2.1 p.2.2.1 p.2.2.2.1)) := by
  obtain ⟨fd_u_law_is_integer, F_u_law_is_integer⟩ := T.d_u_law_is_integer
  have G_u_law_is_integer := ok_u_law_is_integer (P := P) (w := w) (base := base) T F_u_law_is_integer
  have b_u_law_is_integer : Binds K fd_u_law_is_integer ["actual"] [] := F_u_law_is_integer.bindsN fun _ _ _ _ _ _ us hl => match us, hl with | [_], _ => rfl
  refine fn_ok F sc_u_law_on (fun y => rfl) (fun cdv A outer s H E hr => ?_)
  refine ⟨_, (pss_cons (ps_if (PW.pt (pw_or (pt_not (pt_val (pe_callB call_isi (by rfl) T.n_isinstance (by decide +kernel) (pa_cons (pv 3) (pa_cons (pe_bltn (v := .ty "tuple") (by rfl) T.n_tuple (by decide +kernel) rfl) pa_nil))))) (pw_or1 (pt_cmpR op_ne (pe_callB (cr_len rfl) (by rfl) T.n_len (by decide +kernel) (pa_cons (pv 3) pa_nil)) pe_int (nomark _))))) (pss_one (ps_ret pe_bl)) pss_nil) (pss_cons (ps_asg (pv 3) (pg_tup rfl (pgs_cons (pg_name (i := 4) sc_u_law_on.nd rfl (Or.inl rfl)) (pgs_cons (pg_name (i := 5) sc_u_law_on.nd rfl (Or.inl rfl)) pgs_nil)))) (pss_cons (ps_if (PW.pt (pw_or (pt_not (pt_val (pe_callS G_u_law_is_integer (hr.mono (by decide)) rfl T.g_u_law_is_integer F_u_law_is_integer.kp b_u_law_is_integer (fun σ => passAt (takes_of rfl rfl rfl rfl) σ) (pa_cons (pv 4) pa_nil)))) (pw_or (pt_not (pt_val (pe_callS G_u_law_is_integer (hr.mono (by decide)) rfl T.g_u_law_is_integer F_u_law_is_integer.kp b_u_law_is_integer (fun σ => passAt (takes_of rfl rfl rfl rfl) σ) (pa_cons (pv 5) pa_nil)))) (pw_or (pt_not (pt_chain op_le op_lt pe_int (pv 4) (pv 0))) (pw_or1 (pt_not (pt_chain op_le op_lt pe_int (pv 5) (pv 0)))))))) (pss_one (ps_ret pe_bl)) pss_nil) (pss_one (ps_ret (pe_cmpR op_eq (pe_op op_mod (pe_op op_sub (pe_op op_sub (pe_op op_add (pe_op op_mulX (pe_op op_mulX (pv 1) (pv 4)) (pv 4)) (pe_op op_mulX (pv 5) (pv 5))) pe_int) (pe_op op_mulX (pe_op op_mulX (pe_op op_mulX (pe_op op_mulX (pv 2) (pv 4)) (pv 4)) (pv 5)) (pv 5))) (pv 0)) pe_int (nomark _))))))), ?_⟩
  rintro ⟨prime_, a_, d_, point_, ⟨⟩⟩ F0 H0 Q KP L
  show Blk K F0 H0 KP _ [some (.im (toD prime_)), some (.im (toD a_)), some (.im (toD d_)), some (.im (toD point_)), none, none] (m_u_law_on prime_ a_ d_ point_)
  unfold m_u_law_on
  have ht_ := ((et_or (et_not (et_B (ev_isi isi_tuple (ev_var (i := 3) (x := point_) rfl)))) (et_test (ev_op opx_neI mild_ok (ev_lenD (ev_var (i := 3) (x := point_) rfl)) (ev_int (i := 2))))) : EvT K (W0 E) [some (.im (toD prime_)), some (.im (toD a_)), some (.im (toD d_)), some (.im (toD point_)), none, none] _ _)
  refine blk_seq (blk_if2 L trivial ht_ ?_ ?_)
  · have hr_ := ((ev_bl (b := false)) : EvX K (W0 E) [some (.im (toD prime_)), some (.im (toD a_)), some (.im (toD d_)), some (.im (toD point_)), none, none] _ _)
    exact blk_ret L trivial hr_
  · refine blk_nil ?_
    try refine Blk.nx ?_
    have hs_ := ((ev_cast (f := D.asT2) asT2_ok asT2_x (ev_var (i := 3) (x := point_) rfl)) : EvX K (W0 E) [some (.im (toD prime_)), some (.im (toD a_)), some (.im (toD d_)), some (.im (toD point_)), none, none] _ _)
    refine blk_seq (blk_asg L trivial hs_ (fun _ => (gx_tup (gxs_cons gx_name (gxs_cons gx_name gxs_nil)) rfl)) fun u1299 => ?_)
    show Blk _ _ _ _ _ [some (.im (toD prime_)), some (.im (toD a_)), some (.im (toD d_)), some (.im (toD point_)), some (.im (toD u1299.a)), some (.im (toD u1299.b))] ((fun (x_ : D) (y_ : D) => _) u1299.a u1299.b)
    generalize u1299.a = x_
    generalize u1299.b = y_
    show Blk _ _ _ _ _ [some (.im (toD prime_)), some (.im (toD a_)), some (.im (toD d_)), some (.im (toD point_)), some (.im (toD x_)), some (.im (toD y_))] _
    try refine Blk.nx ?_
    have ht_ := ((et_or (et_not (et_B (ev_call (f := (fun (p : D × Unit) => m_u_law_is_integer p.1)) (ea_cons (ev_var (i := 4) (x := x_) rfl) ea_nil)))) (et_or (et_not (et_B (ev_call (f := (fun (p : D × Unit) => m_u_law_is_integer p.1)) (ea_cons (ev_var (i := 5) (x := y_) rfl) ea_nil)))) (et_or (et_not (et_test (ev_chain (opx_B0 (g := fun i j => decide (i ≤ j))) mild_ok (opx_B0 (g := fun i j => decide (i < j))) mild_ok (ev_int (i := 0)) (ev_cast (f := D.asInt) asInt_ok asInt_x (ev_var (i := 4) (x := x_) rfl)) (ev_var (i := 0) (x := prime_) rfl)))) (et_not (et_test (ev_chain (opx_B0 (g := fun i j => decide (i ≤ j))) mild_ok (opx_B0 (g := fun i j => decide (i < j))) mild_ok (ev_int (i := 0)) (ev_cast (f := D.asInt) asInt_ok asInt_x (ev_var (i := 5) (x := y_) rfl)) (ev_var (i := 0) (x := prime_) rfl))))))) : EvT K (W0 E) [some (.im (toD prime_)), some (.im (toD a_)), some (.im (toD d_)), some (.im (toD point_)), some (.im (toD x_)), some (.im (toD y_))] _ _)
    refine blk_seq (blk_if2 L trivial ht_ ?_ ?_)
    · have hr_ := ((ev_bl (b := false)) : EvX K (W0 E) [some (.im (toD prime_)), some (.im (toD a_)), some (.im (toD d_)), some (.im (toD point_)), some (.im (toD x_)), some (.im (toD y_))] _ _)
      exact blk_ret L trivial hr_
    · refine blk_nil ?_
      try refine Blk.nx ?_
      have hr_ := ((ev_op opx_eqI mild_ok (ev_op (opx_I (C := (fun _ j => 0 < j)) (g := fun i j => i % j)) mild_need (ev_op (opx_I0 (g := fun i j => i - j)) mild_ok (ev_op (opx_I0 (g := fun i j => i - j)) mild_ok (ev_op (opx_I0 (g := fun i j => i + j)) mild_ok (ev_op (opx_I (C := CMulX) (g := fun i j => i * j)) mild_need (ev_op (opx_I (C := CMulX) (g := fun i j => i * j)) mild_need (ev_var (i := 1) (x := a_) rfl) (ev_cast (f := D.asInt) asInt_ok asInt_x (ev_var (i := 4) (x := x_) rfl))) (ev_cast (f := D.asInt) asInt_ok asInt_x (ev_var (i := 4) (x := x_) rfl))) (ev_op (opx_I (C := CMulX) (g := fun i j => i * j)) mild_need (ev_cast (f := D.asInt) asInt_ok asInt_x (ev_var (i := 5) (x := y_) rfl)) (ev_cast (f := D.asInt) asInt_ok asInt_x (ev_var (i := 5) (x := y_) rfl)))) (ev_int (i := 1))) (ev_op (opx_I (C := CMulX) (g := fun i j => i * j)) mild_need (ev_op (opx_I (C := CMulX) (g := fun i j => i * j)) mild_need (ev_op (opx_I (C := CMulX) (g := fun i j => i * j)) mild_need (ev_op (opx_I (C := CMulX) (g := fun i j => i * j)) mild_need (ev_var (i := 2) (x := d_) rfl) (ev_cast (f := D.asInt) asInt_ok asInt_x (ev_var (i := 4) (x := x_) rfl))) (ev_cast (f := D.asInt) asInt_ok asInt_x (ev_var (i := 4) (x := x_) rfl))) (ev_cast (f := D.asInt) asInt_ok asInt_x (ev_var (i := 5) (x := y_) rfl))) (ev_cast (f := D.asInt) asInt_ok asInt_x (ev_var (i := 5) (x := y_) rfl)))) (ev_var (i := 0) (x := prime_) rfl)) (ev_int (i := 0))) : EvX K (W0 E) [some (.im (toD prime_)), some (.im (toD a_)), some (.im (toD d_)), some (.im (toD point_)), some (.im (toD x_)), some (.im (toD y_))] _ _)
      exact blk_ret L trivial hr_
noncomputable def m_u_law_lifted_l1 (curve_ : O_EdwardsCurve) (prime_ : Int) (a_ : Int) (d_ : Int) (cell_ : Int) (y_ : Int) (k1 : Unit → Res (T2 Int Int)) : List Int → Unit → Res (T2 Int Int)
  | [], s => k1 s
  | x1351 :: r1, _ =>   (fun (k_ : Int) => (((Res.ok curve_)).bind fun (o1365 : O_EdwardsCurve) => (((((Res.ok y_)).bind fun (t1352 : Int) => ((Res.ok k_)).bind fun (t1353 : Int) => Res.ok (t1352 + t1353)).bind fun (t1354 : Int) => ((Res.ok prime_)).bind fun (t1355 : Int) => Res.need (0 < t1355) (Res.ok (t1354 % t1355))).bind fun a1367 => ((((((((Res.ok cell_)).bind fun a1357 => (Res.ok ()).bind fun a1358 => Res.ok (a1357, a1358)).bind fun p1356 => Res.ok (Int.natAbs p1356.1 : Int)).bind fun (t1359 : Int) => ((Res.ok (2 : Int))).bind fun (t1360 : Int) => Res.ok (t1359 / t1360)).bind fun (t1361 : Int) => ((Res.ok (2 : Int))).bind fun (t1362 : Int) => Res.ok (t1361 % t1362)).bind fun (t1363 : Int) => ((Res.ok (1 : Int))).bind fun (t1364 : Int) => Res.ok (decide (t1363 = t1364))).bind fun a1369 => (Res.ok ()).bind fun a1370 => Res.ok (a1369, a1370)).bind fun a1368 => Res.ok (a1367, a1368)).bind fun p1366 => m_EdwardsCurve_lift o1365 p1366.1 p1366.2.1).bind fun (point_ : (Option (T2 Int Int))) =>   ((((Res.ok point_)).bind fun (t1371 : (Option (T2 Int Int))) => ((Res.ok ())).bind fun (t1372 : Unit) => Res.ok (!(toD t1371).isNon)).bind fun b1382 => cond b1382 ((((Res.ok prime_)).bind fun a1374 => (((Res.ok a_)).bind fun a1376 => (((Res.ok d_)).bind fun a1378 => ((((Res.ok point_)).bind fun (x : (Option (T2 Int Int))) => Res.ok (toD x)).bind fun a1380 => (Res.ok ()).bind fun a1381 => Res.ok (a1380, a1381)).bind fun a1379 => Res.ok (a1378, a1379)).bind fun a1377 => Res.ok (a1376, a1377)).bind fun a1375 => Res.ok (a1374, a1375)).bind fun p1373 => m_u_law_on p1373.1 p1373.2.1 p1373.2.2.1 p1373.2.2.2.1) (Res.ok false)).bind fun b => cond b   (((Res.ok point_)).bind optGet)   (m_u_law_lifted_l1 curve_ prime_ a_ d_ cell_ y_ k1 r1 ())) x1351
noncomputable def m_u_law_lifted_k2 (prime_ : Int) : Unit → Res (T2 Int Int) := fun _ =>   (((Res.ok (0 : Int))).bind fun a1386 => ((((Res.ok prime_)).bind fun (t1383 : Int) => ((Res.ok (1 : Int))).bind fun (t1384 : Int) => Res.ok (t1383 - t1384)).bind fun a1388 => (Res.ok ()).bind fun a1389 => Res.ok (a1388, a1389)).bind fun a1387 => Res.ok (a1386, a1387)).bind fun p1385 => Res.ok (T2.mk p1385.1 p1385.2.1)
noncomputable def m_u_law_lifted (curve_ : O_EdwardsCurve) (prime_ : Int) (a_ : Int) (d_ : Int) (cell_ : Int) : Res (T2 Int Int) :=
  ((((Res.ok cell_)).bind fun a1346 => (((Res.ok prime_)).bind fun a1348 => (Res.ok ()).bind fun a1349 => Res.ok (a1348, a1349)).bind fun a1347 => Res.ok (a1346, a1347)).bind fun p1345 => m_u_law_residue p1345.1 p1345.2.1).bind fun (y_ : Int) =>   (((Res.ok (10 : Int))).bind fun (t1350 : Int) => Res.need (okRange t1350) (Res.ok (pyRange 0 t1350))).bind fun (xs1390 : List Int) => m_u_law_lifted_l1 curve_ prime_ a_ d_ cell_ y_ (m_u_law_lifted_k2 prime_) xs1390 ()
theorem ok_u_law_lifted {P : Program} {w : World} {K : PySem.W.Frag} {mg : Str → Option Value} {base : Heap} (T : Facts K mg) {fd : FuncData} (F : FnP K "_law_lifted" "_law_lifted" s_u_law_lifted (He.ga K "_law_lifted") fd) :
    FnOk P w K mg base (L2.CX P w) 8 (He.ga K "_law_lifted") fd ["curve", "prime", "a", "d", "cell"] (spM K (fun (p : O_EdwardsCurve × Int × Int × Int × Int × Unit) => m_u_law_lifted p.1 p.2.1 p.2.2.1 p.2.2.2.1 p.2.2.2.2.1)) := by
  obtain ⟨fd_EdwardsCurve_lift, F_EdwardsCurve_lift⟩ := T.d_EdwardsCurve_lift
  have G_EdwardsCurve_lift := ok_EdwardsCurve_lift (P := P) (w := w) (base := base) T F_EdwardsCurve_lift
  have b_EdwardsCurve_lift : Binds K fd_EdwardsCurve_lift ["self", "y", "odd"] [] := F_EdwardsCurve_lift.bindsN fun _ _ _ _ _ _ us hl => match us, hl with | [_, _, _], _ => rfl
  obtain ⟨fd_u_law_on, F_u_law_on⟩ := T.d_u_law_on
  have G_u_law_on := ok_u_law_on (P := P) (w := w) (base := base) T F_u_law_on
  have b_u_law_on : Binds K fd_u_law_on ["prime", "a", "d", "point"] [] := F_u_law_on.bindsN fun _ _ _ _ _ _ us hl => match us, hl with | [_, _, _, _], _ => rfl
  obtain ⟨fd_u_law_residue, F_u_law_residue⟩ := T.d_u_law_residue
  have G_u_law_residue := ok_u_law_residue (P := P) (w := w) (base := base) T F_u_law_residue
  have b_u_law_residue : Binds K fd_u_law_residue ["cell", "prime"] [] := F_u_law_residue.bindsN fun _ _ _ _ _ _ us hl => match us, hl with | [_, _], _ => rfl
  refine fn_ok F sc_u_law_lifted (fun y => rfl) (fun cdv A outer s H E hr => ?_)
  refine ⟨_, (pss_cons (ps_set (i := 5) sc_u_law_lifted.nd rfl (Or.inl rfl) (pe_callS G_u_law_residue (hr.mono (by decide)) rfl T.g_u_law_residue F_u_law_residue.kp b_u_law_residue (fun σ => passAt (takes_of rfl rfl rfl rfl) σ) (pa_cons (pv 4) (pa_cons (pv 1) pa_nil)))) (pss_cons (ps_for (passes_of rfl) rfl (pi_range1 rfl T.n_range (pa_cons pe_int pa_nil)) (pg_name (i := 6) sc_u_law_lifted.nd rfl (Or.inl rfl)) (pss_cons (ps_set (i := 7) sc_u_law_lifted.nd rfl (Or.inl rfl) (pe_methQ (pv 0) T.cl_EdwardsCurve T.mt_EdwardsCurve_lift G_EdwardsCurve_lift (hr.mono (by decide)) b_EdwardsCurve_lift (fun σ => passAt (takes_of rfl rfl rfl rfl) σ) (pa_cons (pe_op op_mod (pe_op op_add (pv 5) (pv 6)) (pv 1)) (pa_cons (pe_cmpR op_eq (pe_op op_mod (pe_op op_fdiv (pe_callB call_abs (by rfl) T.n_abs (by decide +kernel) (pa_cons (pv 4) pa_nil)) pe_int) pe_int) pe_int (nomark _)) pa_nil)))) (pss_one (ps_if (PW.pt (pw_and (pt_cmpR op_notN (pv 7) pe_non (nomark _)) (pw_and1 (pt_val (pe_callS G_u_law_on (hr.mono (by decide)) rfl T.g_u_law_on F_u_law_on.kp b_u_law_on (fun σ => passAt (takes_of rfl rfl rfl rfl) σ) (pa_cons (pv 1) (pa_cons (pv 2) (pa_cons (pv 3) (pa_cons (pv 7) pa_nil))))))))) (pss_one (ps_ret (pv 7))) pss_nil)))) (pss_one (ps_ret (pe_tup (pa_cons pe_int (pa_cons (pe_op op_sub (pv 1) pe_int) pa_nil))))))), ?_⟩
  rintro ⟨curve_, prime_, a_, d_, cell_, ⟨⟩⟩ F0 H0 Q KP L
  show Blk K F0 H0 KP _ [some (.im (toD curve_)), some (.im (toD prime_)), some (.im (toD a_)), some (.im (toD d_)), some (.im (toD cell_)), none, none, none] (m_u_law_lifted curve_ prime_ a_ d_ cell_)
  unfold m_u_law_lifted
  have hs_ := ((ev_call (f := (fun (p : Int × Int × Unit) => m_u_law_residue p.1 p.2.1)) (ea_cons (ev_var (i := 4) (x := cell_) rfl) (ea_cons (ev_var (i := 1) (x := prime_) rfl) ea_nil))) : EvX K (W0 E) [some (.im (toD curve_)), some (.im (toD prime_)), some (.im (toD a_)), some (.im (toD d_)), some (.im (toD cell_)), none, none, none] _ _)
  refine blk_seq (blk_set (i := 5) L trivial hs_ fun y_ => ?_)
  show Blk _ _ _ _ _ [some (.im (toD curve_)), some (.im (toD prime_)), some (.im (toD a_)), some (.im (toD d_)), some (.im (toD cell_)), some (.im (toD y_)), none, none] _
  try refine Blk.nx ?_
  have hi_ := ((ei_range1 (ev_int (i := 10))) : EvI K (W0 E) [some (.im (toD curve_)), some (.im (toD prime_)), some (.im (toD a_)), some (.im (toD d_)), some (.im (toD cell_)), some (.im (toD y_)), none, none] _ _)
  refine blk_seq (blk_for (S := Unit) (m_u_law_lifted_l1 curve_ prime_ a_ d_ cell_ y_ (m_u_law_lifted_k2 prime_)) (m_u_law_lifted_k2 prime_) (fun _ => [some (.im (toD curve_)), some (.im (toD prime_)), some (.im (toD a_)), some (.im (toD d_)), some (.im (toD cell_)), some (.im (toD y_)), none, none]) () L trivial hi_ (fun _ => gx_name) (.same (.same (.same (.same (.same (.same (.same (.same .nil)))))))) (fun _ => rfl) ?_ ?_)
  · intro F1 L1 hB1 x1351 r1 s_ N_ hN1
    obtain ⟨⟩ := s_
    show Blk _ _ _ _ _ [some (.im (toD curve_)), some (.im (toD prime_)), some (.im (toD a_)), some (.im (toD d_)), some (.im (toD cell_)), some (.im (toD y_)), some (.im (toD x1351)), none] (m_u_law_lifted_l1 curve_ prime_ a_ d_ cell_ y_ (m_u_law_lifted_k2 prime_) (x1351 :: r1) ())
    rw [m_u_law_lifted_l1]
    show Blk _ _ _ _ _ _ ((fun (k_ : Int) => _) x1351)
    generalize x1351 = k_
    show Blk _ _ _ _ _ [some (.im (toD curve_)), some (.im (toD prime_)), some (.im (toD a_)), some (.im (toD d_)), some (.im (toD cell_)), some (.im (toD y_)), some (.im (toD k_)), none] _
    have hs_ := ((ev_meth (c := "EdwardsCurve") (m := "lift") (ks := ["prime", "a", "d"]) (f := (fun (p : O_EdwardsCurve × Int × Bool × Unit) => m_EdwardsCurve_lift p.1 p.2.1 p.2.2.1)) (ev_var (i := 0) (x := curve_) rfl) (ea_cons (ev_op (opx_I (C := (fun _ j => 0 < j)) (g := fun i j => i % j)) mild_need (ev_op (opx_I0 (g := fun i j => i + j)) mild_ok (ev_var (i := 5) (x := y_) rfl) (ev_var (i := 6) (x := k_) rfl)) (ev_var (i := 1) (x := prime_) rfl)) (ea_cons (ev_op opx_eqI mild_ok (ev_opI (C := (fun _ j => 0 < j)) (g := fun i j => i % j) (fun x y _ h => by cases h; (show (0 : Int) < _; decide)) (ev_opI (C := CDiv) (g := fun i j => i / j) (fun x y _ h => by cases h; exact ⟨by decide, by decide⟩) (ev_cb cx_abs (fun _ _ h => nomatch h) (ea_cons (ev_var (i := 4) (x := cell_) rfl) ea_nil)) (ev_int (i := 2))) (ev_int (i := 2))) (ev_int (i := 1))) ea_nil)) (by decide +kernel) (fun _ => ⟨_, rfl⟩)) : EvX K (W0 E) [some (.im (toD curve_)), some (.im (toD prime_)), some (.im (toD a_)), some (.im (toD d_)), some (.im (toD cell_)), some (.im (toD y_)), some (.im (toD k_)), none] _ _)
    refine blk_seq (blk_set (i := 7) L1 trivial hs_ fun point_ => ?_)
    show Blk _ _ _ _ _ [some (.im (toD curve_)), some (.im (toD prime_)), some (.im (toD a_)), some (.im (toD d_)), some (.im (toD cell_)), some (.im (toD y_)), some (.im (toD k_)), some (.im (toD point_))] _
    try refine Blk.nx ?_
    have ht_ := ((et_and (et_test (ev_op opx_notN mild_ok (ev_var (i := 7) (x := point_) rfl) ev_non)) (et_B (ev_call (f := (fun (p : Int × Int × Int × D × Unit) => m_u_law_on p.1 p.2.1 p.2.2.1 p.2.2.2.1)) (ea_cons (ev_var (i := 1) (x := prime_) rfl) (ea_cons (ev_var (i := 2) (x := a_) rfl) (ea_cons (ev_var (i := 3) (x := d_) rfl) (ea_cons (ev_as (ev_var (i := 7) (x := point_) rfl) toD (fun _ => rfl) rfl) ea_nil))))))) : EvT K (W0 E) [some (.im (toD curve_)), some (.im (toD prime_)), some (.im (toD a_)), some (.im (toD d_)), some (.im (toD cell_)), some (.im (toD y_)), some (.im (toD k_)), some (.im (toD point_))] _ _)
    refine blk_if2 L1 trivial ht_ ?_ ?_
    · have hr_ := ((ev_castG (f := optGet) optGet_ok optGet_x (ev_var (i := 7) (x := point_) rfl)) : EvX K (W0 E) [some (.im (toD curve_)), some (.im (toD prime_)), some (.im (toD a_)), some (.im (toD d_)), some (.im (toD cell_)), some (.im (toD y_)), some (.im (toD k_)), some (.im (toD point_))] _ _)
      exact blk_ret L1 trivial hr_
    · refine blk_nil ?_
      try refine Blk.nx ?_
      exact (hN1 ()).weak (.same (.same (.same (.same (.same (.same (.drop (.drop .nil))))))))
  · intro _
    show Blk _ _ _ _ _ [some (.im (toD curve_)), some (.im (toD prime_)), some (.im (toD a_)), some (.im (toD d_)), some (.im (toD cell_)), some (.im (toD y_)), none, none] ((m_u_law_lifted_k2 prime_) ())
    unfold m_u_law_lifted_k2
    try refine Blk.nx ?_
    have hr_ := ((ev_tup (f := (fun y => T2.mk y.1 y.2.1)) (ea_cons (ev_int (i := 0)) (ea_cons (ev_op (opx_I0 (g := fun i j => i - j)) mild_ok (ev_var (i := 1) (x := prime_) rfl) (ev_int (i := 1))) ea_nil)) (fun _ => rfl) (fun _ => by show 2 ≤ 100000; decide)) : EvX K (W0 E) [some (.im (toD curve_)), some (.im (toD prime_)), some (.im (toD a_)), some (.im (toD d_)), some (.im (toD cell_)), some (.im (toD y_)), none, none] _ _)
    exact blk_ret L trivial hr_
noncomputable def m_u_law_add (prime_ : Int) (a_ : Int) (d_ : Int) (first_ : (T2 Int Int)) (second_ : (T2 Int Int)) : Res (T2 Int Int) :=
  ((Res.ok first_)).bind fun (u1391 : (T2 Int Int)) =>   (fun (x1_ : Int) (y1_ : Int) => ((Res.ok second_)).bind fun (u1392 : (T2 Int Int)) =>   (fun (x2_ : Int) (y2_ : Int) => (((((((Res.ok d_)).bind fun (t1393 : Int) => ((Res.ok x1_)).bind fun (t1394 : Int) => Res.need (CMulX t1393 t1394) (Res.ok (t1393 * t1394))).bind fun (t1395 : Int) => ((Res.ok x2_)).bind fun (t1396 : Int) => Res.need (CMulX t1395 t1396) (Res.ok (t1395 * t1396))).bind fun (t1397 : Int) => ((Res.ok y1_)).bind fun (t1398 : Int) => Res.need (CMulX t1397 t1398) (Res.ok (t1397 * t1398))).bind fun (t1399 : Int) => ((Res.ok y2_)).bind fun (t1400 : Int) => Res.need (CMulX t1399 t1400) (Res.ok (t1399 * t1400))).bind fun (t1401 : Int) => ((Res.ok prime_)).bind fun (t1402 : Int) => Res.need (0 < t1402) (Res.ok (t1401 % t1402))).bind fun (t_ : Int) =>   (((((Res.ok x1_)).bind fun (t1403 : Int) => ((Res.ok y2_)).bind fun (t1404 : Int) => Res.need (CMulX t1403 t1404) (Res.ok (t1403 * t1404))).bind fun (t1407 : Int) => (((Res.ok y1_)).bind fun (t1405 : Int) => ((Res.ok x2_)).bind fun (t1406 : Int) => Res.need (CMulX t1405 t1406) (Res.ok (t1405 * t1406))).bind fun (t1408 : Int) => Res.ok (t1407 + t1408)).bind fun (t1416 : Int) => (((((Res.ok (1 : Int))).bind fun (t1409 : Int) => ((Res.ok t_)).bind fun (t1410 : Int) => Res.ok (t1409 + t1410)).bind fun a1412 => (((Res.ok prime_)).bind fun a1414 => (Res.ok ()).bind fun a1415 => Res.ok (a1414, a1415)).bind fun a1413 => Res.ok (a1412, a1413)).bind fun p1411 => m_u_law_inverse p1411.1 p1411.2.1).bind fun (t1417 : Int) => Res.need (CMulX t1416 t1417) (Res.ok (t1416 * t1417))).bind fun (x3_ : Int) =>   (((((Res.ok y1_)).bind fun (t1418 : Int) => ((Res.ok y2_)).bind fun (t1419 : Int) => Res.need (CMulX t1418 t1419) (Res.ok (t1418 * t1419))).bind fun (t1424 : Int) => ((((Res.ok a_)).bind fun (t1420 : Int) => ((Res.ok x1_)).bind fun (t1421 : Int) => Res.need (CMulX t1420 t1421) (Res.ok (t1420 * t1421))).bind fun (t1422 : Int) => ((Res.ok x2_)).bind fun (t1423 : Int) => Res.need (CMulX t1422 t1423) (Res.ok (t1422 * t1423))).bind fun (t1425 : Int) => Res.ok (t1424 - t1425)).bind fun (t1433 : Int) => (((((Res.ok (1 : Int))).bind fun (t1426 : Int) => ((Res.ok t_)).bind fun (t1427 : Int) => Res.ok (t1426 - t1427)).bind fun a1429 => (((Res.ok prime_)).bind fun a1431 => (Res.ok ()).bind fun a1432 => Res.ok (a1431, a1432)).bind fun a1430 => Res.ok (a1429, a1430)).bind fun p1428 => m_u_law_inverse p1428.1 p1428.2.1).bind fun (t1434 : Int) => Res.need (CMulX t1433 t1434) (Res.ok (t1433 * t1434))).bind fun (y3_ : Int) =>   ((((Res.ok x3_)).bind fun (t1435 : Int) => ((Res.ok prime_)).bind fun (t1436 : Int) => Res.need (0 < t1436) (Res.ok (t1435 % t1436))).bind fun a1440 => ((((Res.ok y3_)).bind fun (t1437 : Int) => ((Res.ok prime_)).bind fun (t1438 : Int) => Res.need (0 < t1438) (Res.ok (t1437 % t1438))).bind fun a1442 => (Res.ok ()).bind fun a1443 => Res.ok (a1442, a1443)).bind fun a1441 => Res.ok (a1440, a1441)).bind fun p1439 => Res.ok (T2.mk p1439.1 p1439.2.1)) u1392.a u1392.b) u1391.a u1391.b
theorem ok_u_law_add {P : Program} {w : World} {K : PySem.W.Frag} {mg : Str → Option Value} {base : Heap} (T : Facts K mg) {fd : FuncData} (F : FnP K "_law_add" "_law_add" s_u_law_add (He.ga K "_law_add") fd) :
    FnOk P w K mg base (L2.CX P w) 3 (He.ga K "_law_add") fd ["prime", "a", "d", "first", "second"] (spM K (fun (p : Int × Int × Int × (T2 Int Int) × (T2 Int Int) × Unit) => m_u_law_add p.1 p.2.1 p.2.2.1 p.2.2.2.1 p.2.2.2.2.1)) := by
  obtain ⟨fd_u_law_inverse, F_u_law_inverse⟩ := T.d_u_law_inverse
  have G_u_law_inverse := ok_u_law_inverse (P := P) (w := w) (base := base) T F_u_law_inverse
  have b_u_law_inverse : Binds K fd_u_law_inverse ["a", "prime"] [] := F_u_law_inverse.bindsN fun _ _ _ _ _ _ us hl => match us, hl with | [_, _], _ => rfl
  refine fn_ok F sc_u_law_add (fun y => rfl) (fun cdv A outer s H E hr => ?_)
  refine ⟨_, (pss_cons (ps_asg (pv 3) (pg_tup rfl (pgs_cons (pg_name (i := 5) sc_u_law_add.nd rfl (Or.inl rfl)) (pgs_cons (pg_name (i := 6) sc_u_law_add.nd rfl (Or.inl rfl)) pgs_nil)))) (pss_cons (ps_asg (pv 4) (pg_tup rfl (pgs_cons (pg_name (i := 7) sc_u_law_add.nd rfl (Or.inl rfl)) (pgs_cons (pg_name (i := 8) sc_u_law_add.nd rfl (Or.inl rfl)) pgs_nil)))) (pss_cons (ps_set (i := 9) sc_u_law_add.nd rfl (Or.inl rfl) (pe_op op_mod (pe_op op_mulX (pe_op op_mulX (pe_op op_mulX (pe_op op_mulX (pv 2) (pv 5)) (pv 7)) (pv 6)) (pv 8)) (pv 0))) (pss_cons (ps_set (i := 10) sc_u_law_add.nd rfl (Or.inl rfl) (pe_op op_mulX (pe_op op_add (pe_op op_mulX (pv 5) (pv 8)) (pe_op op_mulX (pv 6) (pv 7))) (pe_callS G_u_law_inverse (hr.mono (by decide)) rfl T.g_u_law_inverse F_u_law_inverse.kp b_u_law_inverse (fun σ => passAt (takes_of rfl rfl rfl rfl) σ) (pa_cons (pe_op op_add pe_int (pv 9)) (pa_cons (pv 0) pa_nil))))) (pss_cons (ps_set (i := 11) sc_u_law_add.nd rfl (Or.inl rfl) (pe_op op_mulX (pe_op op_sub (pe_op op_mulX (pv 6) (pv 8)) (pe_op op_mulX (pe_op op_mulX (pv 1) (pv 5)) (pv 7))) (pe_callS G_u_law_inverse (hr.mono (by decide)) rfl T.g_u_law_inverse F_u_law_inverse.kp b_u_law_inverse (fun σ => passAt (takes_of rfl rfl rfl rfl) σ) (pa_cons (pe_op op_sub pe_int (pv 9)) (pa_cons (pv 0) pa_nil))))) (pss_one (ps_ret (pe_tup (pa_cons (pe_op op_mod (pv 10) (pv 0)) (pa_cons (pe_op op_mod (pv 11) (pv 0)) pa_nil)))))))))), ?_⟩
  rintro ⟨prime_, a_, d_, first_, second_, ⟨⟩⟩ F0 H0 Q KP L
  show Blk K F0 H0 KP _ [some (.im (toD prime_)), some (.im (toD a_)), some (.im (toD d_)), some (.im (toD first_)), some (.im (toD second_)), none, none, none, none, none, none, none] (m_u_law_add prime_ a_ d_ first_ second_)
  unfold m_u_law_add
  have hs_ := ((ev_var (i := 3) (x := first_) rfl) : EvX K (W0 E) [some (.im (toD prime_)), some (.im (toD a_)), some (.im (toD d_)), some (.im (toD first_)), some (.im (toD second_)), none, none, none, none, none, none, none] _ _)
  refine blk_seq (blk_asg L trivial hs_ (fun _ => (gx_tup (gxs_cons gx_name (gxs_cons gx_name gxs_nil)) rfl)) fun u1391 => ?_)
  show Blk _ _ _ _ _ [some (.im (toD prime_)), some (.im (toD a_)), some (.im (toD d_)), some (.im (toD first_)), some (.im (toD second_)), some (.im (toD u1391.a)), some (.im (toD u1391.b)), none, none, none, none, none] ((fun (x1_ : Int) (y1_ : Int) => _) u1391.a u1391.b)
  generalize u1391.a = x1_
  generalize u1391.b = y1_
  show Blk _ _ _ _ _ [some (.im (toD prime_)), some (.im (toD a_)), some (.im (toD d_)), some (.im (toD first_)), some (.im (toD second_)), some (.im (toD x1_)), some (.im (toD y1_)), none, none, none, none, none] _
  try refine Blk.nx ?_
  have hs_ := ((ev_var (i := 4) (x := second_) rfl) : EvX K (W0 E) [some (.im (toD prime_)), some (.im (toD a_)), some (.im (toD d_)), some (.im (toD first_)), some (.im (toD second_)), some (.im (toD x1_)), some (.im (toD y1_)), none, none, none, none, none] _ _)
  refine blk_seq (blk_asg L trivial hs_ (fun _ => (gx_tup (gxs_cons gx_name (gxs_cons gx_name gxs_nil)) rfl)) fun u1392 => ?_)
  show Blk _ _ _ _ _ [some (.im (toD prime_)), some (.im (toD a_)), some (.im (toD d_)), some (.im (toD first_)), some (.im (toD second_)), some (.im (toD x1_)), some (.im (toD y1_)), some (.im (toD u1392.a)), some (.im (toD u1392.b)), none, none, none] ((fun (x2_ : Int) (y2_ : Int) => _) u1392.a u1392.b)
  generalize u1392.a = x2_
  generalize u1392.b = y2_
  show Blk _ _ _ _ _ [some (.im (toD prime_)), some (.im (toD a_)), some (.im (toD d_)), some (.im (toD first_)), some (.im (toD second_)), some (.im (toD x1_)), some (.im (toD y1_)), some (.im (toD x2_)), some (.im (toD y2_)), none, none, none] _
  try refine Blk.nx ?_
  have hs_ := ((ev_op (opx_I (C := (fun _ j => 0 < j)) (g := fun i j => i % j)) mild_need (ev_op (opx_I (C := CMulX) (g := fun i j => i * j)) mild_need (ev_op (opx_I (C := CMulX) (g := fun i j => i * j)) mild_need (ev_op (opx_I (C := CMulX) (g := fun i j => i * j)) mild_need (ev_op (opx_I (C := CMulX) (g := fun i j => i * j)) mild_need (ev_var (i := 2) (x := d_) rfl) (ev_var (i := 5) (x := x1_) rfl)) (ev_var (i := 7) (x := x2_) rfl)) (ev_var (i := 6) (x := y1_) rfl)) (ev_var (i := 8) (x := y2_) rfl)) (ev_var (i := 0) (x := prime_) rfl)) : EvX K (W0 E) [some (.im (toD prime_)), some (.im (toD a_)), some (.im (toD d_)), some (.im (toD first_)), some (.im (toD second_)), some (.im (toD x1_)), some (.im (toD y1_)), some (.im (toD x2_)), some (.im (toD y2_)), none, none, none] _ _)
  refine blk_seq (blk_set (i := 9) L trivial hs_ fun t_ => ?_)
  show Blk _ _ _ _ _ [some (.im (toD prime_)), some (.im (toD a_)), some (.im (toD d_)), some (.im (toD first_)), some (.im (toD second_)), some (.im (toD x1_)), some (.im (toD y1_)), some (.im (toD x2_)), some (.im (toD y2_)), some (.im (toD t_)), none, none] _
  try refine Blk.nx ?_
  have hs_ := ((ev_op (opx_I (C := CMulX) (g := fun i j => i * j)) mild_need (ev_op (opx_I0 (g := fun i j => i + j)) mild_ok (ev_op (opx_I (C := CMulX) (g := fun i j => i * j)) mild_need (ev_var (i := 5) (x := x1_) rfl) (ev_var (i := 8) (x := y2_) rfl)) (ev_op (opx_I (C := CMulX) (g := fun i j => i * j)) mild_need (ev_var (i := 6) (x := y1_) rfl) (ev_var (i := 7) (x := x2_) rfl))) (ev_call (f := (fun (p : Int × Int × Unit) => m_u_law_inverse p.1 p.2.1)) (ea_cons (ev_op (opx_I0 (g := fun i j => i + j)) mild_ok (ev_int (i := 1)) (ev_var (i := 9) (x := t_) rfl)) (ea_cons (ev_var (i := 0) (x := prime_) rfl) ea_nil)))) : EvX K (W0 E) [some (.im (toD prime_)), some (.im (toD a_)), some (.im (toD d_)), some (.im (toD first_)), some (.im (toD second_)), some (.im (toD x1_)), some (.im (toD y1_)), some (.im (toD x2_)), some (.im (toD y2_)), some (.im (toD t_)), none, none] _ _)
  refine blk_seq (blk_set (i := 10) L trivial hs_ fun x3_ => ?_)
  show Blk _ _ _ _ _ [some (.im (toD prime_)), some (.im (toD a_)), some (.im (toD d_)), some (.im (toD first_)), some (.im (toD second_)), some (.im (toD x1_)), some (.im (toD y1_)), some (.im (toD x2_)), some (.im (toD y2_)), some (.im (toD t_)), some (.im (toD x3_)), none] _
  try refine Blk.nx ?_
  have hs_ := ((ev_op (opx_I (C := CMulX) (g := fun i j => i * j)) mild_need (ev_op (opx_I0 (g := fun i j => i - j)) mild_ok (ev_op (opx_I (C := CMulX) (g := fun i j => i * j)) mild_need (ev_var (i := 6) (x := y1_) rfl) (ev_var (i := 8) (x := y2_) rfl)) (ev_op (opx_I (C := CMulX) (g := fun i j => i * j)) mild_need (ev_op (opx_I (C := CMulX) (g := fun i j => i * j)) mild_need (ev_var (i := 1) (x := a_) rfl) (ev_var (i := 5) (x := x1_) rfl)) (ev_var (i := 7) (x := x2_) rfl))) (ev_call (f := (fun (p : Int × Int × Unit) => m_u_law_inverse p.1 p.2.1)) (ea_cons (ev_op (opx_I0 (g := fun i j => i - j)) mild_ok (ev_int (i := 1)) (ev_var (i := 9) (x := t_) rfl)) (ea_cons (ev_var (i := 0) (x := prime_) rfl) ea_nil)))) : EvX K (W0 E) [some (.im (toD prime_)), some (.im (toD a_)), some (.im (toD d_)), some (.im (toD first_)), some (.im (toD second_)), some (.im (toD x1_)), some (.im (toD y1_)), some (.im (toD x2_)), some (.im (toD y2_)), some (.im (toD t_)), some (.im (toD x3_)), none] _ _)
  refine blk_seq (blk_set (i := 11) L trivial hs_ fun y3_ => ?_)
  show Blk _ _ _ _ _ [some (.im (toD prime_)), some (.im (toD a_)), some (.im (toD d_)), some (.im (toD first_)), some (.im (toD second_)), some (.im (toD x1_)), some (.im (toD y1_)), some (.im (toD x2_)), some (.im (toD y2_)), some (.im (toD t_)), some (.im (toD x3_)), some (.im (toD y3_))] _
  try refine Blk.nx ?_
  have hr_ := ((ev_tup (f := (fun y => T2.mk y.1 y.2.1)) (ea_cons (ev_op (opx_I (C := (fun _ j => 0 < j)) (g := fun i j => i % j)) mild_need (ev_var (i := 10) (x := x3_) rfl) (ev_var (i := 0) (x := prime_) rfl)) (ea_cons (ev_op (opx_I (C := (fun _ j => 0 < j)) (g := fun i j => i % j)) mild_need (ev_var (i := 11) (x := y3_) rfl) (ev_var (i := 0) (x := prime_) rfl)) ea_nil)) (fun _ => rfl) (fun _ => by show 2 ≤ 100000; decide)) : EvX K (W0 E) [some (.im (toD prime_)), some (.im (toD a_)), some (.im (toD d_)), some (.im (toD first_)), some (.im (toD second_)), some (.im (toD x1_)), some (.im (toD y1_)), some (.im (toD x2_)), some (.im (toD y2_)), some (.im (toD t_)), some (.im (toD x3_)), some (.im (toD y3_))] _ _)
  exact blk_ret L trivial hr_
noncomputable def m_u_law_montgomery (prime_ : Int) (a_ : Int) (d_ : Int) (point_ : (T2 Int Int)) : Res (Option (T2 Int Int)) :=
  ((Res.ok point_)).bind fun (u1444 : (T2 Int Int)) =>   (fun (x_ : Int) (y_ : Int) => (((Res.ok x_)).bind fun (t1445 : Int) => ((Res.ok (0 : Int))).bind fun (t1446 : Int) => Res.ok (decide (t1445 = t1446))).bind fun b => cond b   (((((Res.ok (none : (Option (T2 Int Int))))).bind fun a1458 => ((((((Res.ok (0 : Int))).bind fun a1453 => (((Res.ok (0 : Int))).bind fun a1455 => (Res.ok ()).bind fun a1456 => Res.ok (a1455, a1456)).bind fun a1454 => Res.ok (a1453, a1454)).bind fun p1452 => Res.ok (T2.mk p1452.1 p1452.2.1)).bind fun (x : (T2 Int Int)) => Res.ok (some x)).bind fun a1460 => (Res.ok ()).bind fun a1461 => Res.ok (a1460, a1461)).bind fun a1459 => Res.ok (a1458, a1459)).bind fun p1457 => Res.ok ([p1457.1, p1457.2.1] : List (Option (T2 Int Int)))).bind fun (t1467 : (List (Option (T2 Int Int)))) => (((((Res.ok y_)).bind fun (t1462 : Int) => ((Res.ok (1 : Int))).bind fun (t1463 : Int) => Res.ok (!decide (t1462 = t1463))).bind fun a1465 => (Res.ok ()).bind fun a1466 => Res.ok (a1465, a1466)).bind fun p1464 => Res.ok (if p1464.1 = true then (1 : Int) else 0)).bind fun (t1468 : Int) => idx t1467 t1468)   ((((((Res.ok (1 : Int))).bind fun (t1469 : Int) => ((Res.ok y_)).bind fun (t1470 : Int) => Res.ok (t1469 + t1470)).bind fun (t1478 : Int) => (((((Res.ok (1 : Int))).bind fun (t1471 : Int) => ((Res.ok y_)).bind fun (t1472 : Int) => Res.ok (t1471 - t1472)).bind fun a1474 => (((Res.ok prime_)).bind fun a1476 => (Res.ok ()).bind fun a1477 => Res.ok (a1476, a1477)).bind fun a1475 => Res.ok (a1474, a1475)).bind fun p1473 => m_u_law_inverse p1473.1 p1473.2.1).bind fun (t1479 : Int) => Res.need (CMulX t1478 t1479) (Res.ok (t1478 * t1479))).bind fun (t1480 : Int) => ((Res.ok prime_)).bind fun (t1481 : Int) => Res.need (0 < t1481) (Res.ok (t1480 % t1481))).bind fun (u_ : Int) =>   ((((Res.ok u_)).bind fun a1492 => (((((Res.ok u_)).bind fun (t1487 : Int) => ((((Res.ok x_)).bind fun a1483 => (((Res.ok prime_)).bind fun a1485 => (Res.ok ()).bind fun a1486 => Res.ok (a1485, a1486)).bind fun a1484 => Res.ok (a1483, a1484)).bind fun p1482 => m_u_law_inverse p1482.1 p1482.2.1).bind fun (t1488 : Int) => Res.need (CMulX t1487 t1488) (Res.ok (t1487 * t1488))).bind fun (t1489 : Int) => ((Res.ok prime_)).bind fun (t1490 : Int) => Res.need (0 < t1490) (Res.ok (t1489 % t1490))).bind fun a1494 => (Res.ok ()).bind fun a1495 => Res.ok (a1494, a1495)).bind fun a1493 => Res.ok (a1492, a1493)).bind fun p1491 => Res.ok (T2.mk p1491.1 p1491.2.1)).bind fun (x : (T2 Int Int)) => Res.ok (some x))) u1444.a u1444.b
theorem ok_u_law_montgomery {P : Program} {w : World} {K : PySem.W.Frag} {mg : Str → Option Value} {base : Heap} (T : Facts K mg) {fd : FuncData} (F : FnP K "_law_montgomery" "_law_montgomery" s_u_law_montgomery (He.ga K "_law_montgomery") fd) :
    FnOk P w K mg base (L2.CX P w) 3 (He.ga K "_law_montgomery") fd ["prime", "a", "d", "point"] (spM K (fun (p : Int × Int × Int × (T2 Int Int) × Unit) => m_u_law_montgomery p.1 p.2.1 p.2.2.1 p.2.2.2.1)) := by
  obtain ⟨fd_u_law_inverse, F_u_law_inverse⟩ := T.d_u_law_inverse
  have G_u_law_inverse := ok_u_law_inverse (P := P) (w := w) (base := base) T F_u_law_inverse
  have b_u_law_inverse : Binds K fd_u_law_inverse ["a", "prime"] [] := F_u_law_inverse.bindsN fun _ _ _ _ _ _ us hl => match us, hl with | [_, _], _ => rfl
  refine fn_ok F sc_u_law_montgomery (fun y => rfl) (fun cdv A outer s H E hr => ?_)
  refine ⟨_, (pss_cons (ps_asg (pv 3) (pg_tup rfl (pgs_cons (pg_name (i := 4) sc_u_law_montgomery.nd rfl (Or.inl rfl)) (pgs_cons (pg_name (i := 5) sc_u_law_montgomery.nd rfl (Or.inl rfl)) pgs_nil)))) (pss_cons (ps_if (pt_cmpR op_eq (pv 4) pe_int (nomark _)) (pss_one (ps_ret (pe_ix (cr_ixL rfl) (pe_lst (pa_cons pe_non (pa_cons (pe_tup (pa_cons pe_int (pa_cons pe_int pa_nil))) pa_nil))) (pe_callTy call_int1 (by rfl) T.n_int (by decide +kernel) (pa_cons (pe_cmpR op_ne (pv 5) pe_int (nomark _)) pa_nil)) (fun _ _ => rfl)))) pss_nil) (pss_cons (ps_set (i := 6) sc_u_law_montgomery.nd rfl (Or.inl rfl) (pe_op op_mod (pe_op op_mulX (pe_op op_add pe_int (pv 5)) (pe_callS G_u_law_inverse (hr.mono (by decide)) rfl T.g_u_law_inverse F_u_law_inverse.kp b_u_law_inverse (fun σ => passAt (takes_of rfl rfl rfl rfl) σ) (pa_cons (pe_op op_sub pe_int (pv 5)) (pa_cons (pv 0) pa_nil)))) (pv 0))) (pss_one (ps_ret (pe_tup (pa_cons (pv 6) (pa_cons (pe_op op_mod (pe_op op_mulX (pv 6) (pe_callS G_u_law_inverse (hr.mono (by decide)) rfl T.g_u_law_inverse F_u_law_inverse.kp b_u_law_inverse (fun σ => passAt (takes_of rfl rfl rfl rfl) σ) (pa_cons (pv 4) (pa_cons (pv 0) pa_nil)))) (pv 0)) pa_nil)))))))), ?_⟩
  rintro ⟨prime_, a_, d_, point_, ⟨⟩⟩ F0 H0 Q KP L
  show Blk K F0 H0 KP _ [some (.im (toD prime_)), some (.im (toD a_)), some (.im (toD d_)), some (.im (toD point_)), none, none, none] (m_u_law_montgomery prime_ a_ d_ point_)
  unfold m_u_law_montgomery
  have hs_ := ((ev_var (i := 3) (x := point_) rfl) : EvX K (W0 E) [some (.im (toD prime_)), some (.im (toD a_)), some (.im (toD d_)), some (.im (toD point_)), none, none, none] _ _)
  refine blk_seq (blk_asg L trivial hs_ (fun _ => (gx_tup (gxs_cons gx_name (gxs_cons gx_name gxs_nil)) rfl)) fun u1444 => ?_)
  show Blk _ _ _ _ _ [some (.im (toD prime_)), some (.im (toD a_)), some (.im (toD d_)), some (.im (toD point_)), some (.im (toD u1444.a)), some (.im (toD u1444.b)), none] ((fun (x_ : Int) (y_ : Int) => _) u1444.a u1444.b)
  generalize u1444.a = x_
  generalize u1444.b = y_
  show Blk _ _ _ _ _ [some (.im (toD prime_)), some (.im (toD a_)), some (.im (toD d_)), some (.im (toD point_)), some (.im (toD x_)), some (.im (toD y_)), none] _
  try refine Blk.nx ?_
  have ht_ := ((et_test (ev_op opx_eqI mild_ok (ev_var (i := 4) (x := x_) rfl) (ev_int (i := 0)))) : EvT K (W0 E) [some (.im (toD prime_)), some (.im (toD a_)), some (.im (toD d_)), some (.im (toD point_)), some (.im (toD x_)), some (.im (toD y_)), none] _ _)
  refine blk_seq (blk_if2 L trivial ht_ ?_ ?_)
  · have hr_ := ((ev_op opx_ixL (fun x y => idx_mild x y) (ev_ofN (en_lst (f := (fun y => ([y.1, y.2.1] : List (Option (T2 Int Int))))) (ea_cons (ev_noneO (α := (T2 Int Int))) (ea_cons (ev_as (ev_tup (f := (fun y => T2.mk y.1 y.2.1)) (ea_cons (ev_int (i := 0)) (ea_cons (ev_int (i := 0)) ea_nil)) (fun _ => rfl) (fun _ => by show 2 ≤ 100000; decide)) some (fun _ => rfl) rfl) ea_nil)) (fun _ => rfl) (fun _ => by show 2 ≤ 100000; decide))) (ev_cb cx_intB (fun _ _ h => nomatch h) (ea_cons (ev_op opx_neI mild_ok (ev_var (i := 5) (x := y_) rfl) (ev_int (i := 1))) ea_nil))) : EvX K (W0 E) [some (.im (toD prime_)), some (.im (toD a_)), some (.im (toD d_)), some (.im (toD point_)), some (.im (toD x_)), some (.im (toD y_)), none] _ _)
    exact blk_ret L trivial hr_
  · refine blk_nil ?_
    try refine Blk.nx ?_
    have hs_ := ((ev_op (opx_I (C := (fun _ j => 0 < j)) (g := fun i j => i % j)) mild_need (ev_op (opx_I (C := CMulX) (g := fun i j => i * j)) mild_need (ev_op (opx_I0 (g := fun i j => i + j)) mild_ok (ev_int (i := 1)) (ev_var (i := 5) (x := y_) rfl)) (ev_call (f := (fun (p : Int × Int × Unit) => m_u_law_inverse p.1 p.2.1)) (ea_cons (ev_op (opx_I0 (g := fun i j => i - j)) mild_ok (ev_int (i := 1)) (ev_var (i := 5) (x := y_) rfl)) (ea_cons (ev_var (i := 0) (x := prime_) rfl) ea_nil)))) (ev_var (i := 0) (x := prime_) rfl)) : EvX K (W0 E) [some (.im (toD prime_)), some (.im (toD a_)), some (.im (toD d_)), some (.im (toD point_)), some (.im (toD x_)), some (.im (toD y_)), none] _ _)
    refine blk_seq (blk_set (i := 6) L trivial hs_ fun u_ => ?_)
    show Blk _ _ _ _ _ [some (.im (toD prime_)), some (.im (toD a_)), some (.im (toD d_)), some (.im (toD point_)), some (.im (toD x_)), some (.im (toD y_)), some (.im (toD u_))] _
    try refine Blk.nx ?_
    have hr_ := ((ev_as (ev_tup (f := (fun y => T2.mk y.1 y.2.1)) (ea_cons (ev_var (i := 6) (x := u_) rfl) (ea_cons (ev_op (opx_I (C := (fun _ j => 0 < j)) (g := fun i j => i % j)) mild_need (ev_op (opx_I (C := CMulX) (g := fun i j => i * j)) mild_need (ev_var (i := 6) (x := u_) rfl) (ev_call (f := (fun (p : Int × Int × Unit) => m_u_law_inverse p.1 p.2.1)) (ea_cons (ev_var (i := 4) (x := x_) rfl) (ea_cons (ev_var (i := 0) (x := prime_) rfl) ea_nil)))) (ev_var (i := 0) (x := prime_) rfl)) ea_nil)) (fun _ => rfl) (fun _ => by show 2 ≤ 100000; decide)) some (fun _ => rfl) rfl) : EvX K (W0 E) [some (.im (toD prime_)), some (.im (toD a_)), some (.im (toD d_)), some (.im (toD point_)), some (.im (toD x_)), some (.im (toD y_)), some (.im (toD u_))] _ _)
    exact blk_ret L trivial hr_
noncomputable def m_u_law_told_k2 : Res D :=   ((Res.ok ("other" : Str))).bind fun (x : Str) => Res.ok (toD x)
noncomputable def m_u_law_told (which_ : Int) (curve_ : O_EdwardsCurve) (pair_ : D) : Res D :=
  tryR (fun c => decide (c ∈ errs)) (fun c => subE c "CurveError")   ((((Res.ok which_)).bind fun (t1496 : Int) => ((Res.ok (0 : Int))).bind fun (t1497 : Int) => Res.ok (decide (t1496 = t1497))).bind fun b => cond b   ((((((Res.ok curve_)).bind fun a1499 => (((Res.ok pair_)).bind fun a1501 => (Res.ok ()).bind fun a1502 => Res.ok (a1501, a1502)).bind fun a1500 => Res.ok (a1499, a1500)).bind fun p1498 => m_from_montgomery p1498.1 p1498.2.1).bind fun (x : (T2 Int Int)) => Res.ok (toD x)).bind fun x => Res.ok (.back x))   ((((((Res.ok curve_)).bind fun a1504 => (((Res.ok pair_)).bind fun a1506 => (Res.ok ()).bind fun a1507 => Res.ok (a1506, a1507)).bind fun a1505 => Res.ok (a1504, a1505)).bind fun p1503 => m_from_weierstrass p1503.1 p1503.2.1).bind fun (x : (T2 Int Int)) => Res.ok (toD x)).bind fun x => Res.ok (.back x)))   (fun (_ : Unit) => Res.stuck) (fun qc_ => (((Res.ok (subE qc_ "NotAPoint"))).bind fun b1509 => cond b1509 (((Res.ok (subE qc_ "OutOfRange" || subE qc_ "Malformed"))).bind fun (t1508 : Bool) => Res.ok (!t1508)) (Res.ok false)).bind fun b => cond b   (((((Res.ok ("refused" : Str))).bind fun a1511 => (((Res.ok ("point" : Str))).bind fun a1513 => (Res.ok ()).bind fun a1514 => Res.ok (a1513, a1514)).bind fun a1512 => Res.ok (a1511, a1512)).bind fun p1510 => Res.ok (T2.mk p1510.1 p1510.2.1)).bind fun (x : (T2 Str Str)) => Res.ok (toD x))   ((m_u_law_told_k2)))
theorem ok_u_law_told {P : Program} {w : World} {K : PySem.W.Frag} {mg : Str → Option Value} {base : Heap} (T : Facts K mg) {fd : FuncData} (F : FnP K "_law_told" "_law_told" s_u_law_told (He.ga K "_law_told") fd) :
    FnOk P w K mg base (L2.CX P w) 7 (He.ga K "_law_told") fd ["which", "curve", "pair"] (spM K (fun (p : Int × O_EdwardsCurve × D × Unit) => m_u_law_told p.1 p.2.1 p.2.2.1)) := by
  obtain ⟨fd_from_montgomery, F_from_montgomery⟩ := T.d_from_montgomery
  have G_from_montgomery := ok_from_montgomery (P := P) (w := w) (base := base) T F_from_montgomery
  have b_from_montgomery : Binds K fd_from_montgomery ["curve", "pair"] [] := F_from_montgomery.bindsN fun _ _ _ _ _ _ us hl => match us, hl with | [_, _], _ => rfl
  obtain ⟨fd_from_weierstrass, F_from_weierstrass⟩ := T.d_from_weierstrass
  have G_from_weierstrass := ok_from_weierstrass (P := P) (w := w) (base := base) T F_from_weierstrass
  have b_from_weierstrass : Binds K fd_from_weierstrass ["curve", "point"] [] := F_from_weierstrass.bindsN fun _ _ _ _ _ _ us hl => match us, hl with | [_, _], _ => rfl
  refine fn_ok F sc_u_law_told (fun y => rfl) (fun cdv A outer s H E hr => ?_)
  refine ⟨_, (pss_cons (ps_tryW (i := 3) rfl rfl sc_u_law_told.nd rfl rfl ⟨rfl, by decide, .inl T.g_CurveError⟩ (takes_of rfl rfl rfl rfl) (fun qW_ qpn_ qxe_ qtk_ qpo_ => (pss_cons (ps_if (pt_cmpR op_eq (pv 0) pe_int (nomark _)) (pss_one (ps_ret (pe_callS G_from_montgomery (hr.mono (by decide)) rfl T.g_from_montgomery F_from_montgomery.kp b_from_montgomery (fun σ => passAt qtk_ σ) (pa_cons (pv 1) (pa_cons (pv 2) pa_nil))))) pss_nil) (pss_one (ps_ret (pe_callS G_from_weierstrass (hr.mono (by decide)) rfl T.g_from_weierstrass F_from_weierstrass.kp b_from_weierstrass (fun σ => passAt qtk_ σ) (pa_cons (pv 1) (pa_cons (pv 2) pa_nil))))))) (fun qa_ qoe_ qcls_ qd_ qpn_ qhz_ qhf_ => (pss_one (ps_if (PW.pt (pw_and (pt_val (pe_callB (call_isE2 qhz_ qhf_) (by rfl) T.n_isinstance (by decide +kernel) (pa_cons (pv 3) (pa_cons (pe_glob (v := .ref (He.ga K "NotAPoint")) rfl T.g_NotAPoint rfl) pa_nil)))) (pw_and1 (pt_not (pt_val (pe_callB (call_isET qhz_ qhf_) (by rfl) T.n_isinstance (by decide +kernel) (pa_cons (pv 3) (pa_cons (pe_tup (pa_cons (pe_glob (v := .ref (He.ga K "OutOfRange")) rfl T.g_OutOfRange rfl) (pa_cons (pe_glob (v := .ref (He.ga K "Malformed")) rfl T.g_Malformed rfl) pa_nil))) pa_nil)))))))) (pss_one (ps_ret (pe_tup (pa_cons pe_str (pa_cons pe_str pa_nil))))) pss_nil)))) (pss_one (ps_ret pe_str))), ?_⟩
  rintro ⟨which_, curve_, pair_, ⟨⟩⟩ F0 H0 Q KP L
  show Blk K F0 H0 KP _ [some (.im (toD which_)), some (.im (toD curve_)), some (.im (toD pair_)), none] (m_u_law_told which_ curve_ pair_)
  unfold m_u_law_told
  refine blk_seq (blk_with (m1 := (m_u_law_told_k2)) (env1 := [some (.im (toD which_)), some (.im (toD curve_)), some (.im (toD pair_)), none]) ?_ ?_)
  · show Blk _ _ _ _ _ [some (.im (toD which_)), some (.im (toD curve_)), some (.im (toD pair_)), none] (m_u_law_told_k2)
    unfold m_u_law_told_k2
    try refine Blk.nx ?_
    have hr_ := ((ev_as (ev_str (x := "other")) toD (fun _ => rfl) rfl) : EvX K (W0 E) [some (.im (toD which_)), some (.im (toD curve_)), some (.im (toD pair_)), none] _ _)
    exact blk_ret L trivial hr_
  · intro hr_
    refine blk_tryW (S := Unit) (envS := fun _ => [some (.im (toD which_)), some (.im (toD curve_)), some (.im (toD pair_)), none]) (rest := (fun (_ : Unit) => Res.stuck)) L trivial T.cls (x := "CurveError") (by decide) ?_ ?_ ?_
    · intro qW_ qKP_ Lt qhg_
      have ht_ := ((et_test (ev_op opx_eqI mild_ok (ev_var (i := 0) (x := which_) rfl) (ev_int (i := 0)))) : EvT K qW_ [some (.im (toD which_)), some (.im (toD curve_)), some (.im (toD pair_)), none] _ _)
      refine blk_seq (blk_if2 Lt (.same (.same (.same (.same .nil)))) ht_ ?_ ?_)
      · have hr_ := ((ev_as (ev_call (f := (fun (p : O_EdwardsCurve × D × Unit) => m_from_montgomery p.1 p.2.1)) (ea_cons (ev_var (i := 1) (x := curve_) rfl) (ea_cons (ev_var (i := 2) (x := pair_) rfl) ea_nil))) toD (fun _ => rfl) rfl) : EvX K qW_ [some (.im (toD which_)), some (.im (toD curve_)), some (.im (toD pair_)), none] _ _)
        exact blk_retAs Lt (.same (.same (.same (.same .nil)))) hr_ (fun _ => rfl)
      · refine blk_nil ?_
        try refine Blk.nx ?_
        have hr_ := ((ev_as (ev_call (f := (fun (p : O_EdwardsCurve × D × Unit) => m_from_weierstrass p.1 p.2.1)) (ea_cons (ev_var (i := 1) (x := curve_) rfl) (ea_cons (ev_var (i := 2) (x := pair_) rfl) ea_nil))) toD (fun _ => rfl) rfl) : EvX K qW_ [some (.im (toD which_)), some (.im (toD curve_)), some (.im (toD pair_)), none] _ _)
        exact blk_retAs Lt (.same (.same (.same (.same .nil)))) hr_ (fun _ => rfl)
    · intro qc_ qa_ qnx_ qbk_ qct_ qhc_ qhsub_ qhn_
      show Blk _ _ _ _ _ [some (.im (toD which_)), some (.im (toD curve_)), some (.im (toD pair_)), some (.raw (.ref qa_))] _
      have ht_ := ((et_and (et_B (ev_isE T.cls qhc_ (x := "NotAPoint") (i := 3) (a := qa_) (by decide) rfl)) (et_not (et_B (ev_isET2 T.cls qhc_ (x := "OutOfRange") (y := "Malformed") (i := 3) (a := qa_) (by decide) (by decide) rfl)))) : EvT K (W0 E) [some (.im (toD which_)), some (.im (toD curve_)), some (.im (toD pair_)), some (.raw (.ref qa_))] _ _)
      refine blk_if2 L trivial ht_ ?_ ?_
      · have hr_ := ((ev_as (ev_tup (f := (fun y => T2.mk y.1 y.2.1)) (ea_cons (ev_str (x := "refused")) (ea_cons (ev_str (x := "point")) ea_nil)) (fun _ => rfl) (fun _ => by show 2 ≤ 100000; decide)) toD (fun _ => rfl) rfl) : EvX K (W0 E) [some (.im (toD which_)), some (.im (toD curve_)), some (.im (toD pair_)), some (.raw (.ref qa_))] _ _)
        exact blk_ret L trivial hr_
      · refine blk_nil ?_
        try refine Blk.nx ?_
        refine qhn_ _ _ ?_
        show Blk _ _ _ _ _ [some (.im (toD which_)), some (.im (toD curve_)), some (.im (toD pair_)), none] _
        exact hr_.weak (.same (.same (.same (.same .nil))))
    · intro _ _ _ _ _ h_
      exact (L.no h_).elim
noncomputable def m_u_law_numbers_due (prime_ : Int) (a_ : Int) (d_ : Int) : Res (T2 Int Int) :=
  (((((Res.ok a_)).bind fun (t1515 : Int) => ((Res.ok d_)).bind fun (t1516 : Int) => Res.ok (t1515 - t1516)).bind fun a1518 => (((Res.ok prime_)).bind fun a1520 => (Res.ok ()).bind fun a1521 => Res.ok (a1520, a1521)).bind fun a1519 => Res.ok (a1518, a1519)).bind fun p1517 => m_u_law_inverse p1517.1 p1517.2.1).bind fun (back_ : Int) =>   ((((((Res.ok (2 : Int))).bind fun (t1524 : Int) => (((Res.ok a_)).bind fun (t1522 : Int) => ((Res.ok d_)).bind fun (t1523 : Int) => Res.ok (t1522 + t1523)).bind fun (t1525 : Int) => Res.ok (t1524 * t1525)).bind fun (t1526 : Int) => ((Res.ok back_)).bind fun (t1527 : Int) => Res.need (CMulX t1526 t1527) (Res.ok (t1526 * t1527))).bind fun (t1528 : Int) => ((Res.ok prime_)).bind fun (t1529 : Int) => Res.need (0 < t1529) (Res.ok (t1528 % t1529))).bind fun a1535 => (((((Res.ok (4 : Int))).bind fun (t1530 : Int) => ((Res.ok back_)).bind fun (t1531 : Int) => Res.ok (t1530 * t1531)).bind fun (t1532 : Int) => ((Res.ok prime_)).bind fun (t1533 : Int) => Res.need (0 < t1533) (Res.ok (t1532 % t1533))).bind fun a1537 => (Res.ok ()).bind fun a1538 => Res.ok (a1537, a1538)).bind fun a1536 => Res.ok (a1535, a1536)).bind fun p1534 => Res.ok (T2.mk p1534.1 p1534.2.1)
theorem ok_u_law_numbers_due {P : Program} {w : World} {K : PySem.W.Frag} {mg : Str → Option Value} {base : Heap} (T : Facts K mg) {fd : FuncData} (F : FnP K "_law_numbers_due" "_law_numbers_due" s_u_law_numbers_due (He.ga K "_law_numbers_due") fd) :
    FnOk P w K mg base (L2.CX P w) 3 (He.ga K "_law_numbers_due") fd ["prime", "a", "d"] (spM K (fun (p : Int × Int × Int × Unit) => m_u_law_numbers_due p.1 p.2.1 p.2.2.1)) := by
  obtain ⟨fd_u_law_inverse, F_u_law_inverse⟩ := T.d_u_law_inverse
  have G_u_law_inverse := ok_u_law_inverse (P := P) (w := w) (base := base) T F_u_law_inverse
  have b_u_law_inverse : Binds K fd_u_law_inverse ["a", "prime"] [] := F_u_law_inverse.bindsN fun _ _ _ _ _ _ us hl => match us, hl with | [_, _], _ => rfl
  refine fn_ok F sc_u_law_numbers_due (fun y => rfl) (fun cdv A outer s H E hr => ?_)
  refine ⟨_, (pss_cons (ps_set (i := 3) sc_u_law_numbers_due.nd rfl (Or.inl rfl) (pe_callS G_u_law_inverse (hr.mono (by decide)) rfl T.g_u_law_inverse F_u_law_inverse.kp b_u_law_inverse (fun σ => passAt (takes_of rfl rfl rfl rfl) σ) (pa_cons (pe_op op_sub (pv 1) (pv 2)) (pa_cons (pv 0) pa_nil)))) (pss_one (ps_ret (pe_tup (pa_cons (pe_op op_mod (pe_op op_mulX (pe_op op_mul pe_int (pe_op op_add (pv 1) (pv 2))) (pv 3)) (pv 0)) (pa_cons (pe_op op_mod (pe_op op_mul pe_int (pv 3)) (pv 0)) pa_nil)))))), ?_⟩
  rintro ⟨prime_, a_, d_, ⟨⟩⟩ F0 H0 Q KP L
  show Blk K F0 H0 KP _ [some (.im (toD prime_)), some (.im (toD a_)), some (.im (toD d_)), none] (m_u_law_numbers_due prime_ a_ d_)
  unfold m_u_law_numbers_due
  have hs_ := ((ev_call (f := (fun (p : Int × Int × Unit) => m_u_law_inverse p.1 p.2.1)) (ea_cons (ev_op (opx_I0 (g := fun i j => i - j)) mild_ok (ev_var (i := 1) (x := a_) rfl) (ev_var (i := 2) (x := d_) rfl)) (ea_cons (ev_var (i := 0) (x := prime_) rfl) ea_nil))) : EvX K (W0 E) [some (.im (toD prime_)), some (.im (toD a_)), some (.im (toD d_)), none] _ _)
  refine blk_seq (blk_set (i := 3) L trivial hs_ fun back_ => ?_)
  show Blk _ _ _ _ _ [some (.im (toD prime_)), some (.im (toD a_)), some (.im (toD d_)), some (.im (toD back_))] _
  try refine Blk.nx ?_
  have hr_ := ((ev_tup (f := (fun y => T2.mk y.1 y.2.1)) (ea_cons (ev_op (opx_I (C := (fun _ j => 0 < j)) (g := fun i j => i % j)) mild_need (ev_op (opx_I (C := CMulX) (g := fun i j => i * j)) mild_need (ev_opI (C := CMul) (g := fun i j => i * j) (fun x y h _ => by cases h; exact .inl (by decide)) (ev_int (i := 2)) (ev_op (opx_I0 (g := fun i j => i + j)) mild_ok (ev_var (i := 1) (x := a_) rfl) (ev_var (i := 2) (x := d_) rfl))) (ev_var (i := 3) (x := back_) rfl)) (ev_var (i := 0) (x := prime_) rfl)) (ea_cons (ev_op (opx_I (C := (fun _ j => 0 < j)) (g := fun i j => i % j)) mild_need (ev_opI (C := CMul) (g := fun i j => i * j) (fun x y h _ => by cases h; exact .inl (by decide)) (ev_int (i := 4)) (ev_var (i := 3) (x := back_) rfl)) (ev_var (i := 0) (x := prime_) rfl)) ea_nil)) (fun _ => rfl) (fun _ => by show 2 ≤ 100000; decide)) : EvX K (W0 E) [some (.im (toD prime_)), some (.im (toD a_)), some (.im (toD d_)), some (.im (toD back_))] _ _)
  exact blk_ret L trivial hr_
noncomputable def m_u_law_shape (prime_ : Int) (big_ : Int) (small_ : Int) : Res (T2 Int Int) :=
  (((((Res.ok (3 : Int))).bind fun (t1541 : Int) => (((Res.ok big_)).bind fun (t1539 : Int) => ((Res.ok big_)).bind fun (t1540 : Int) => Res.need (CMulX t1539 t1540) (Res.ok (t1539 * t1540))).bind fun (t1542 : Int) => Res.ok (t1541 - t1542)).bind fun (t1552 : Int) => ((((((Res.ok (3 : Int))).bind fun (t1543 : Int) => ((Res.ok small_)).bind fun (t1544 : Int) => Res.ok (t1543 * t1544)).bind fun (t1545 : Int) => ((Res.ok small_)).bind fun (t1546 : Int) => Res.need (CMulX t1545 t1546) (Res.ok (t1545 * t1546))).bind fun a1548 => (((Res.ok prime_)).bind fun a1550 => (Res.ok ()).bind fun a1551 => Res.ok (a1550, a1551)).bind fun a1549 => Res.ok (a1548, a1549)).bind fun p1547 => m_u_law_inverse p1547.1 p1547.2.1).bind fun (t1553 : Int) => Res.need (CMulX t1552 t1553) (Res.ok (t1552 * t1553))).bind fun (t1554 : Int) => ((Res.ok prime_)).bind fun (t1555 : Int) => Res.need (0 < t1555) (Res.ok (t1554 % t1555))).bind fun (first_ : Int) =>   ((((((((Res.ok (2 : Int))).bind fun (t1556 : Int) => ((Res.ok big_)).bind fun (t1557 : Int) => Res.ok (t1556 * t1557)).bind fun (t1558 : Int) => ((Res.ok big_)).bind fun (t1559 : Int) => Res.need (CMulX t1558 t1559) (Res.ok (t1558 * t1559))).bind fun (t1560 : Int) => ((Res.ok big_)).bind fun (t1561 : Int) => Res.need (CMulX t1560 t1561) (Res.ok (t1560 * t1561))).bind fun (t1564 : Int) => (((Res.ok (9 : Int))).bind fun (t1562 : Int) => ((Res.ok big_)).bind fun (t1563 : Int) => Res.ok (t1562 * t1563)).bind fun (t1565 : Int) => Res.ok (t1564 - t1565)).bind fun (t1577 : Int) => (((((((Res.ok (27 : Int))).bind fun (t1566 : Int) => ((Res.ok small_)).bind fun (t1567 : Int) => Res.ok (t1566 * t1567)).bind fun (t1568 : Int) => ((Res.ok small_)).bind fun (t1569 : Int) => Res.need (CMulX t1568 t1569) (Res.ok (t1568 * t1569))).bind fun (t1570 : Int) => ((Res.ok small_)).bind fun (t1571 : Int) => Res.need (CMulX t1570 t1571) (Res.ok (t1570 * t1571))).bind fun a1573 => (((Res.ok prime_)).bind fun a1575 => (Res.ok ()).bind fun a1576 => Res.ok (a1575, a1576)).bind fun a1574 => Res.ok (a1573, a1574)).bind fun p1572 => m_u_law_inverse p1572.1 p1572.2.1).bind fun (t1578 : Int) => Res.need (CMulX t1577 t1578) (Res.ok (t1577 * t1578))).bind fun (t1579 : Int) => ((Res.ok prime_)).bind fun (t1580 : Int) => Res.need (0 < t1580) (Res.ok (t1579 % t1580))).bind fun (second_ : Int) =>   (((Res.ok first_)).bind fun a1582 => (((Res.ok second_)).bind fun a1584 => (Res.ok ()).bind fun a1585 => Res.ok (a1584, a1585)).bind fun a1583 => Res.ok (a1582, a1583)).bind fun p1581 => Res.ok (T2.mk p1581.1 p1581.2.1)
theorem ok_u_law_shape {P : Program} {w : World} {K : PySem.W.Frag} {mg : Str → Option Value} {base : Heap} (T : Facts K mg) {fd : FuncData} (F : FnP K "_law_shape" "_law_shape" s_u_law_shape (He.ga K "_law_shape") fd) :
    FnOk P w K mg base (L2.CX P w) 3 (He.ga K "_law_shape") fd ["prime", "big", "small"] (spM K (fun (p : Int × Int × Int × Unit) => m_u_law_shape p.1 p.2.1 p.2.2.1)) := by
  obtain ⟨fd_u_law_inverse, F_u_law_inverse⟩ := T.d_u_law_inverse
  have G_u_law_inverse := ok_u_law_inverse (P := P) (w := w) (base := base) T F_u_law_inverse
  have b_u_law_inverse : Binds K fd_u_law_inverse ["a", "prime"] [] := F_u_law_inverse.bindsN fun _ _ _ _ _ _ us hl => match us, hl with | [_, _], _ => rfl
  refine fn_ok F sc_u_law_shape (fun y => rfl) (fun cdv A outer s H E hr => ?_)
  refine ⟨_, (pss_cons (ps_set (i := 3) sc_u_law_shape.nd rfl (Or.inl rfl) (pe_op op_mod (pe_op op_mulX (pe_op op_sub pe_int (pe_op op_mulX (pv 1) (pv 1))) (pe_callS G_u_law_inverse (hr.mono (by decide)) rfl T.g_u_law_inverse F_u_law_inverse.kp b_u_law_inverse (fun σ => passAt (takes_of rfl rfl rfl rfl) σ) (pa_cons (pe_op op_mulX (pe_op op_mul pe_int (pv 2)) (pv 2)) (pa_cons (pv 0) pa_nil)))) (pv 0))) (pss_cons (ps_set (i := 4) sc_u_law_shape.nd rfl (Or.inl rfl) (pe_op op_mod (pe_op op_mulX (pe_op op_sub (pe_op op_mulX (pe_op op_mulX (pe_op op_mul pe_int (pv 1)) (pv 1)) (pv 1)) (pe_op op_mul pe_int (pv 1))) (pe_callS G_u_law_inverse (hr.mono (by decide)) rfl T.g_u_law_inverse F_u_law_inverse.kp b_u_law_inverse (fun σ => passAt (takes_of rfl rfl rfl rfl) σ) (pa_cons (pe_op op_mulX (pe_op op_mulX (pe_op op_mul pe_int (pv 2)) (pv 2)) (pv 2)) (pa_cons (pv 0) pa_nil)))) (pv 0))) (pss_one (ps_ret (pe_tup (pa_cons (pv 3) (pa_cons (pv 4) pa_nil))))))), ?_⟩
  rintro ⟨prime_, big_, small_, ⟨⟩⟩ F0 H0 Q KP L
  show Blk K F0 H0 KP _ [some (.im (toD prime_)), some (.im (toD big_)), some (.im (toD small_)), none, none] (m_u_law_shape prime_ big_ small_)
  unfold m_u_law_shape
  have hs_ := ((ev_op (opx_I (C := (fun _ j => 0 < j)) (g := fun i j => i % j)) mild_need (ev_op (opx_I (C := CMulX) (g := fun i j => i * j)) mild_need (ev_op (opx_I0 (g := fun i j => i - j)) mild_ok (ev_int (i := 3)) (ev_op (opx_I (C := CMulX) (g := fun i j => i * j)) mild_need (ev_var (i := 1) (x := big_) rfl) (ev_var (i := 1) (x := big_) rfl))) (ev_call (f := (fun (p : Int × Int × Unit) => m_u_law_inverse p.1 p.2.1)) (ea_cons (ev_op (opx_I (C := CMulX) (g := fun i j => i * j)) mild_need (ev_opI (C := CMul) (g := fun i j => i * j) (fun x y h _ => by cases h; exact .inl (by decide)) (ev_int (i := 3)) (ev_var (i := 2) (x := small_) rfl)) (ev_var (i := 2) (x := small_) rfl)) (ea_cons (ev_var (i := 0) (x := prime_) rfl) ea_nil)))) (ev_var (i := 0) (x := prime_) rfl)) : EvX K (W0 E) [some (.im (toD prime_)), some (.im (toD big_)), some (.im (toD small_)), none, none] _ _)
  refine blk_seq (blk_set (i := 3) L trivial hs_ fun first_ => ?_)
  show Blk _ _ _ _ _ [some (.im (toD prime_)), some (.im (toD big_)), some (.im (toD small_)), some (.im (toD first_)), none] _
  try refine Blk.nx ?_
  have hs_ := ((ev_op (opx_I (C := (fun _ j => 0 < j)) (g := fun i j => i % j)) mild_need (ev_op (opx_I (C := CMulX) (g := fun i j => i * j)) mild_need (ev_op (opx_I0 (g := fun i j => i - j)) mild_ok (ev_op (opx_I (C := CMulX) (g := fun i j => i * j)) mild_need (ev_op (opx_I (C := CMulX) (g := fun i j => i * j)) mild_need (ev_opI (C := CMul) (g := fun i j => i * j) (fun x y h _ => by cases h; exact .inl (by decide)) (ev_int (i := 2)) (ev_var (i := 1) (x := big_) rfl)) (ev_var (i := 1) (x := big_) rfl)) (ev_var (i := 1) (x := big_) rfl)) (ev_opI (C := CMul) (g := fun i j => i * j) (fun x y h _ => by cases h; exact .inl (by decide)) (ev_int (i := 9)) (ev_var (i := 1) (x := big_) rfl))) (ev_call (f := (fun (p : Int × Int × Unit) => m_u_law_inverse p.1 p.2.1)) (ea_cons (ev_op (opx_I (C := CMulX) (g := fun i j => i * j)) mild_need (ev_op (opx_I (C := CMulX) (g := fun i j => i * j)) mild_need (ev_opI (C := CMul) (g := fun i j => i * j) (fun x y h _ => by cases h; exact .inl (by decide)) (ev_int (i := 27)) (ev_var (i := 2) (x := small_) rfl)) (ev_var (i := 2) (x := small_) rfl)) (ev_var (i := 2) (x := small_) rfl)) (ea_cons (ev_var (i := 0) (x := prime_) rfl) ea_nil)))) (ev_var (i := 0) (x := prime_) rfl)) : EvX K (W0 E) [some (.im (toD prime_)), some (.im (toD big_)), some (.im (toD small_)), some (.im (toD first_)), none] _ _)
  refine blk_seq (blk_set (i := 4) L trivial hs_ fun second_ => ?_)
  show Blk _ _ _ _ _ [some (.im (toD prime_)), some (.im (toD big_)), some (.im (toD small_)), some (.im (toD first_)), some (.im (toD second_))] _
  try refine Blk.nx ?_
  have hr_ := ((ev_tup (f := (fun y => T2.mk y.1 y.2.1)) (ea_cons (ev_var (i := 3) (x := first_) rfl) (ea_cons (ev_var (i := 4) (x := second_) rfl) ea_nil)) (fun _ => rfl) (fun _ => by show 2 ≤ 100000; decide)) : EvX K (W0 E) [some (.im (toD prime_)), some (.im (toD big_)), some (.im (toD small_)), some (.im (toD first_)), some (.im (toD second_))] _ _)
  exact blk_ret L trivial hr_
noncomputable def m_u_law_right_point (curve_ : O_EdwardsCurve) (prime_ : Int) (a_ : Int) (d_ : Int) (point_ : (T2 Int Int)) : Res Bool :=
  ((((Res.ok prime_)).bind fun a1587 => (((Res.ok a_)).bind fun a1589 => (((Res.ok d_)).bind fun a1591 => (Res.ok ()).bind fun a1592 => Res.ok (a1591, a1592)).bind fun a1590 => Res.ok (a1589, a1590)).bind fun a1588 => Res.ok (a1587, a1588)).bind fun p1586 => m_u_law_numbers_due p1586.1 p1586.2.1 p1586.2.2.1).bind fun (u1593 : (T2 Int Int)) =>   (fun (big_ : Int) (small_ : Int) => ((((Res.ok curve_)).bind fun a1595 => (((Res.ok point_)).bind fun a1597 => (Res.ok ()).bind fun a1598 => Res.ok (a1597, a1598)).bind fun a1596 => Res.ok (a1595, a1596)).bind fun p1594 => m_to_montgomery p1594.1 p1594.2.1).bind fun (pair_ : (Option (T2 Int Int))) =>   ((((Res.ok pair_)).bind fun (t1608 : (Option (T2 Int Int))) => ((((Res.ok prime_)).bind fun a1600 => (((Res.ok a_)).bind fun a1602 => (((Res.ok d_)).bind fun a1604 => (((Res.ok point_)).bind fun a1606 => (Res.ok ()).bind fun a1607 => Res.ok (a1606, a1607)).bind fun a1605 => Res.ok (a1604, a1605)).bind fun a1603 => Res.ok (a1602, a1603)).bind fun a1601 => Res.ok (a1600, a1601)).bind fun p1599 => m_u_law_montgomery p1599.1 p1599.2.1 p1599.2.2.1 p1599.2.2.2.1).bind fun (t1609 : (Option (T2 Int Int))) => Res.need ((toD t1608).okq = true ∧ (toD t1609).okq = true) (Res.ok (!pyEq (toD t1608) (toD t1609)))).bind fun b1619 => cond b1619 (Res.ok true) (((((Res.ok (0 : Int))).bind fun a1611 => (((Res.ok curve_)).bind fun a1613 => ((((Res.ok pair_)).bind fun (x : (Option (T2 Int Int))) => Res.ok (toD x)).bind fun a1615 => (Res.ok ()).bind fun a1616 => Res.ok (a1615, a1616)).bind fun a1614 => Res.ok (a1613, a1614)).bind fun a1612 => Res.ok (a1611, a1612)).bind fun p1610 => m_u_law_told p1610.1 p1610.2.1 p1610.2.2.1).bind fun (t1617 : D) => ((Res.ok point_)).bind fun (t1618 : (T2 Int Int)) => Res.need ((toD t1617).okq = true ∧ (toD t1618).okq = true) (Res.ok (!pyEq (toD t1617) (toD t1618))))).bind fun b => cond b   ((Res.ok false))   (((((Res.ok curve_)).bind fun a1621 => (((Res.ok point_)).bind fun a1623 => (Res.ok ()).bind fun a1624 => Res.ok (a1623, a1624)).bind fun a1622 => Res.ok (a1621, a1622)).bind fun p1620 => m_to_weierstrass p1620.1 p1620.2.1).bind fun (image_ : (Option (T2 Int Int))) =>   (((Res.ok pair_)).bind fun (t1625 : (Option (T2 Int Int))) => ((Res.ok ())).bind fun (t1626 : Unit) => Res.ok (toD t1625).isNon).bind fun b => cond b   ((((Res.ok image_)).bind fun (t1627 : (Option (T2 Int Int))) => ((Res.ok ())).bind fun (t1628 : Unit) => Res.ok (toD t1627).isNon).bind fun b1638 => cond b1638 (((((Res.ok (1 : Int))).bind fun a1630 => (((Res.ok curve_)).bind fun a1632 => ((((Res.ok ())).bind fun (x : Unit) => Res.ok (toD x)).bind fun a1634 => (Res.ok ()).bind fun a1635 => Res.ok (a1634, a1635)).bind fun a1633 => Res.ok (a1632, a1633)).bind fun a1631 => Res.ok (a1630, a1631)).bind fun p1629 => m_u_law_told p1629.1 p1629.2.1 p1629.2.2.1).bind fun (t1636 : D) => ((Res.ok point_)).bind fun (t1637 : (T2 Int Int)) => Res.need ((toD t1636).okq = true ∧ (toD t1637).okq = true) (Res.ok (pyEq (toD t1636) (toD t1637)))) (Res.ok false))   ((((Res.ok pair_)).bind optGet).bind fun (u1639 : (T2 Int Int)) =>   (fun (u_ : Int) (v_ : Int) => (((((((((Res.ok small_)).bind fun (t1640 : Int) => ((Res.ok v_)).bind fun (t1641 : Int) => Res.need (CMulX t1640 t1641) (Res.ok (t1640 * t1641))).bind fun (t1642 : Int) => ((Res.ok v_)).bind fun (t1643 : Int) => Res.need (CMulX t1642 t1643) (Res.ok (t1642 * t1643))).bind fun (t1648 : Int) => ((((Res.ok u_)).bind fun (t1644 : Int) => ((Res.ok u_)).bind fun (t1645 : Int) => Res.need (CMulX t1644 t1645) (Res.ok (t1644 * t1645))).bind fun (t1646 : Int) => ((Res.ok u_)).bind fun (t1647 : Int) => Res.need (CMulX t1646 t1647) (Res.ok (t1646 * t1647))).bind fun (t1649 : Int) => Res.ok (t1648 - t1649)).bind fun (t1654 : Int) => ((((Res.ok big_)).bind fun (t1650 : Int) => ((Res.ok u_)).bind fun (t1651 : Int) => Res.need (CMulX t1650 t1651) (Res.ok (t1650 * t1651))).bind fun (t1652 : Int) => ((Res.ok u_)).bind fun (t1653 : Int) => Res.need (CMulX t1652 t1653) (Res.ok (t1652 * t1653))).bind fun (t1655 : Int) => Res.ok (t1654 - t1655)).bind fun (t1656 : Int) => ((Res.ok u_)).bind fun (t1657 : Int) => Res.ok (t1656 - t1657)).bind fun (t1658 : Int) => ((Res.ok prime_)).bind fun (t1659 : Int) => Res.need (0 < t1659) (Res.ok (t1658 % t1659))).bind fun (t1660 : Int) => ((Res.ok (0 : Int))).bind fun (t1661 : Int) => Res.ok (!decide (t1660 = t1661))).bind fun b => cond b   ((Res.ok false))   ((((((Res.ok u_)).bind fun (t1669 : Int) => (((Res.ok big_)).bind fun (t1667 : Int) => ((((Res.ok (3 : Int))).bind fun a1663 => (((Res.ok prime_)).bind fun a1665 => (Res.ok ()).bind fun a1666 => Res.ok (a1665, a1666)).bind fun a1664 => Res.ok (a1663, a1664)).bind fun p1662 => m_u_law_inverse p1662.1 p1662.2.1).bind fun (t1668 : Int) => Res.need (CMulX t1667 t1668) (Res.ok (t1667 * t1668))).bind fun (t1670 : Int) => Res.ok (t1669 + t1670)).bind fun (t1676 : Int) => ((((Res.ok small_)).bind fun a1672 => (((Res.ok prime_)).bind fun a1674 => (Res.ok ()).bind fun a1675 => Res.ok (a1674, a1675)).bind fun a1673 => Res.ok (a1672, a1673)).bind fun p1671 => m_u_law_inverse p1671.1 p1671.2.1).bind fun (t1677 : Int) => Res.need (CMulX t1676 t1677) (Res.ok (t1676 * t1677))).bind fun (t1678 : Int) => ((Res.ok prime_)).bind fun (t1679 : Int) => Res.need (0 < t1679) (Res.ok (t1678 % t1679))).bind fun (x_ : Int) =>   ((((Res.ok image_)).bind fun (t1694 : (Option (T2 Int Int))) => ((((Res.ok x_)).bind fun a1690 => (((((Res.ok v_)).bind fun (t1685 : Int) => ((((Res.ok small_)).bind fun a1681 => (((Res.ok prime_)).bind fun a1683 => (Res.ok ()).bind fun a1684 => Res.ok (a1683, a1684)).bind fun a1682 => Res.ok (a1681, a1682)).bind fun p1680 => m_u_law_inverse p1680.1 p1680.2.1).bind fun (t1686 : Int) => Res.need (CMulX t1685 t1686) (Res.ok (t1685 * t1686))).bind fun (t1687 : Int) => ((Res.ok prime_)).bind fun (t1688 : Int) => Res.need (0 < t1688) (Res.ok (t1687 % t1688))).bind fun a1692 => (Res.ok ()).bind fun a1693 => Res.ok (a1692, a1693)).bind fun a1691 => Res.ok (a1690, a1691)).bind fun p1689 => Res.ok (T2.mk p1689.1 p1689.2.1)).bind fun (t1695 : (T2 Int Int)) => Res.need ((toD t1694).okq = true ∧ (toD t1695).okq = true) (Res.ok (!pyEq (toD t1694) (toD t1695)))).bind fun b1704 => cond b1704 (Res.ok true) ((((((Res.ok curve_)).bind fun a1697 => (Res.ok ()).bind fun a1698 => Res.ok (a1697, a1698)).bind fun p1696 => m_weierstrass_of p1696.1).bind fun (o1699 : O_Curve) => ((((Res.ok image_)).bind fun (x : (Option (T2 Int Int))) => Res.ok (toD x)).bind fun a1701 => (Res.ok ()).bind fun a1702 => Res.ok (a1701, a1702)).bind fun p1700 => m_Curve_has o1699 p1700.1).bind fun (t1703 : Bool) => Res.ok (!t1703))).bind fun b => cond b   ((Res.ok false))   (((((Res.ok (1 : Int))).bind fun a1706 => (((Res.ok curve_)).bind fun a1708 => ((((Res.ok image_)).bind fun (x : (Option (T2 Int Int))) => Res.ok (toD x)).bind fun a1710 => (Res.ok ()).bind fun a1711 => Res.ok (a1710, a1711)).bind fun a1709 => Res.ok (a1708, a1709)).bind fun a1707 => Res.ok (a1706, a1707)).bind fun p1705 => m_u_law_told p1705.1 p1705.2.1 p1705.2.2.1).bind fun (t1712 : D) => ((Res.ok point_)).bind fun (t1713 : (T2 Int Int)) => Res.need ((toD t1712).okq = true ∧ (toD t1713).okq = true) (Res.ok (pyEq (toD t1712) (toD t1713)))))) u1639.a u1639.b))) u1593.a u1593.b
theorem ok_u_law_right_point {P : Program} {w : World} {K : PySem.W.Frag} {mg : Str → Option Value} {base : Heap} (T : Facts K mg) {fd : FuncData} (F : FnP K "_law_right_point" "_law_right_point" s_u_law_right_point (He.ga K "_law_right_point") fd) :
    FnOk P w K mg base (L2.CX P w) 8 (He.ga K "_law_right_point") fd ["curve", "prime", "a", "d", "point"] (spM K (fun (p : O_EdwardsCurve × Int × Int × Int × (T2 Int Int) × Unit) => m_u_law_right_point p.1 p.2.1 p.2.2.1 p.2.2.2.1 p.2.2.2.2.1)) := by
  obtain ⟨fd_Curve_has, F_Curve_has⟩ := T.d_Curve_has
  have G_Curve_has := ok_Curve_has (P := P) (w := w) (base := base) T F_Curve_has
  have b_Curve_has : Binds K fd_Curve_has ["self", "point"] [] := F_Curve_has.bindsN fun _ _ _ _ _ _ us hl => match us, hl with | [_, _], _ => rfl
  obtain ⟨fd_u_law_inverse, F_u_law_inverse⟩ := T.d_u_law_inverse
  have G_u_law_inverse := ok_u_law_inverse (P := P) (w := w) (base := base) T F_u_law_inverse
  have b_u_law_inverse : Binds K fd_u_law_inverse ["a", "prime"] [] := F_u_law_inverse.bindsN fun _ _ _ _ _ _ us hl => match us, hl with | [_, _], _ => rfl
  obtain ⟨fd_u_law_montgomery, F_u_law_montgomery⟩ := T.d_u_law_montgomery
  have G_u_law_montgomery := ok_u_law_montgomery (P := P) (w := w) (base := base) T F_u_law_montgomery
  have b_u_law_montgomery : Binds K fd_u_law_montgomery ["prime", "a", "d", "point"] [] := F_u_law_montgomery.bindsN fun _ _ _ _ _ _ us hl => match us, hl with | [_, _, _, _], _ => rfl
  obtain ⟨fd_u_law_numbers_due, F_u_law_numbers_due⟩ := T.d_u_law_numbers_due
  have G_u_law_numbers_due := ok_u_law_numbers_due (P := P) (w := w) (base := base) T F_u_law_numbers_due
  have b_u_law_numbers_due : Binds K fd_u_law_numbers_due ["prime", "a", "d"] [] := F_u_law_numbers_due.bindsN fun _ _ _ _ _ _ us hl => match us, hl with | [_, _, _], _ => rfl
  obtain ⟨fd_u_law_told, F_u_law_told⟩ := T.d_u_law_told
  have G_u_law_told := ok_u_law_told (P := P) (w := w) (base := base) T F_u_law_told
  have b_u_law_told : Binds K fd_u_law_told ["which", "curve", "pair"] [] := F_u_law_told.bindsN fun _ _ _ _ _ _ us hl => match us, hl with | [_, _, _], _ => rfl
  obtain ⟨fd_to_montgomery, F_to_montgomery⟩ := T.d_to_montgomery
  have G_to_montgomery := ok_to_montgomery (P := P) (w := w) (base := base) T F_to_montgomery
  have b_to_montgomery : Binds K fd_to_montgomery ["curve", "point"] [] := F_to_montgomery.bindsN fun _ _ _ _ _ _ us hl => match us, hl with | [_, _], _ => rfl
  obtain ⟨fd_to_weierstrass, F_to_weierstrass⟩ := T.d_to_weierstrass
  have G_to_weierstrass := ok_to_weierstrass (P := P) (w := w) (base := base) T F_to_weierstrass
  have b_to_weierstrass : Binds K fd_to_weierstrass ["curve", "point"] [] := F_to_weierstrass.bindsN fun _ _ _ _ _ _ us hl => match us, hl with | [_, _], _ => rfl
  obtain ⟨fd_weierstrass_of, F_weierstrass_of⟩ := T.d_weierstrass_of
  have G_weierstrass_of := ok_weierstrass_of (P := P) (w := w) (base := base) T F_weierstrass_of
  have b_weierstrass_of : Binds K fd_weierstrass_of ["curve"] [] := F_weierstrass_of.bindsN fun _ _ _ _ _ _ us hl => match us, hl with | [_], _ => rfl
  refine fn_ok F sc_u_law_right_point (fun y => rfl) (fun cdv A outer s H E hr => ?_)
  refine ⟨_, (pss_cons (ps_asg (pe_callS G_u_law_numbers_due (hr.mono (by decide)) rfl T.g_u_law_numbers_due F_u_law_numbers_due.kp b_u_law_numbers_due (fun σ => passAt (takes_of rfl rfl rfl rfl) σ) (pa_cons (pv 1) (pa_cons (pv 2) (pa_cons (pv 3) pa_nil)))) (pg_tup rfl (pgs_cons (pg_name (i := 5) sc_u_law_right_point.nd rfl (Or.inl rfl)) (pgs_cons (pg_name (i := 6) sc_u_law_right_point.nd rfl (Or.inl rfl)) pgs_nil)))) (pss_cons (ps_set (i := 7) sc_u_law_right_point.nd rfl (Or.inl rfl) (pe_callS G_to_montgomery (hr.mono (by decide)) rfl T.g_to_montgomery F_to_montgomery.kp b_to_montgomery (fun σ => passAt (takes_of rfl rfl rfl rfl) σ) (pa_cons (pv 0) (pa_cons (pv 4) pa_nil)))) (pss_cons (ps_if (PW.pt (pw_or (pt_cmpR (op_neD (Room.units hr)) (pv 7) (pe_callS G_u_law_montgomery (hr.mono (by decide)) rfl T.g_u_law_montgomery F_u_law_montgomery.kp b_u_law_montgomery (fun σ => passAt (takes_of rfl rfl rfl rfl) σ) (pa_cons (pv 1) (pa_cons (pv 2) (pa_cons (pv 3) (pa_cons (pv 4) pa_nil))))) (nomark _)) (pw_or1 (pt_cmpR (op_neD (Room.units hr)) (pe_callS G_u_law_told (hr.mono (by decide)) rfl T.g_u_law_told F_u_law_told.kp b_u_law_told (fun σ => passAt (takes_of rfl rfl rfl rfl) σ) (pa_cons pe_int (pa_cons (pv 0) (pa_cons (pv 7) pa_nil)))) (pv 4) (nomark _))))) (pss_one (ps_ret pe_bl)) pss_nil) (pss_cons (ps_set (i := 8) sc_u_law_right_point.nd rfl (Or.inl rfl) (pe_callS G_to_weierstrass (hr.mono (by decide)) rfl T.g_to_weierstrass F_to_weierstrass.kp b_to_weierstrass (fun σ => passAt (takes_of rfl rfl rfl rfl) σ) (pa_cons (pv 0) (pa_cons (pv 4) pa_nil)))) (pss_cons (ps_if (pt_cmpR op_isN (pv 7) pe_non (nomark _)) (pss_one (ps_ret (pe_and (pe_cmpR op_isN (pv 8) pe_non (nomark _)) (pe_one (pe_cmpR (op_eqD (Room.units hr)) (pe_callS G_u_law_told (hr.mono (by decide)) rfl T.g_u_law_told F_u_law_told.kp b_u_law_told (fun σ => passAt (takes_of rfl rfl rfl rfl) σ) (pa_cons pe_int (pa_cons (pv 0) (pa_cons pe_non pa_nil)))) (pv 4) (nomark _)))))) pss_nil) (pss_cons (ps_asg (pv 7) (pg_tup rfl (pgs_cons (pg_name (i := 9) sc_u_law_right_point.nd rfl (Or.inl rfl)) (pgs_cons (pg_name (i := 10) sc_u_law_right_point.nd rfl (Or.inl rfl)) pgs_nil)))) (pss_cons (ps_if (pt_cmpR op_ne (pe_op op_mod (pe_op op_sub (pe_op op_sub (pe_op op_sub (pe_op op_mulX (pe_op op_mulX (pv 6) (pv 10)) (pv 10)) (pe_op op_mulX (pe_op op_mulX (pv 9) (pv 9)) (pv 9))) (pe_op op_mulX (pe_op op_mulX (pv 5) (pv 9)) (pv 9))) (pv 9)) (pv 1)) pe_int (nomark _)) (pss_one (ps_ret pe_bl)) pss_nil) (pss_cons (ps_set (i := 11) sc_u_law_right_point.nd rfl (Or.inl rfl) (pe_op op_mod (pe_op op_mulX (pe_op op_add (pv 9) (pe_op op_mulX (pv 5) (pe_callS G_u_law_inverse (hr.mono (by decide)) rfl T.g_u_law_inverse F_u_law_inverse.kp b_u_law_inverse (fun σ => passAt (takes_of rfl rfl rfl rfl) σ) (pa_cons pe_int (pa_cons (pv 1) pa_nil))))) (pe_callS G_u_law_inverse (hr.mono (by decide)) rfl T.g_u_law_inverse F_u_law_inverse.kp b_u_law_inverse (fun σ => passAt (takes_of rfl rfl rfl rfl) σ) (pa_cons (pv 6) (pa_cons (pv 1) pa_nil)))) (pv 1))) (pss_cons (ps_if (PW.pt (pw_or (pt_cmpR (op_neD (Room.units hr)) (pv 8) (pe_tup (pa_cons (pv 11) (pa_cons (pe_op op_mod (pe_op op_mulX (pv 10) (pe_callS G_u_law_inverse (hr.mono (by decide)) rfl T.g_u_law_inverse F_u_law_inverse.kp b_u_law_inverse (fun σ => passAt (takes_of rfl rfl rfl rfl) σ) (pa_cons (pv 6) (pa_cons (pv 1) pa_nil)))) (pv 1)) pa_nil))) (nomark _)) (pw_or1 (pt_not (pt_val (pe_methQ (pe_callS G_weierstrass_of (hr.mono (by decide)) rfl T.g_weierstrass_of F_weierstrass_of.kp b_weierstrass_of (fun σ => passAt (takes_of rfl rfl rfl rfl) σ) (pa_cons (pv 0) pa_nil)) T.cl_Curve T.mt_Curve_has G_Curve_has (hr.mono (by decide)) b_Curve_has (fun σ => passAt (takes_of rfl rfl rfl rfl) σ) (pa_cons (pv 8) pa_nil))))))) (pss_one (ps_ret pe_bl)) pss_nil) (pss_one (ps_ret (pe_cmpR (op_eqD (Room.units hr)) (pe_callS G_u_law_told (hr.mono (by decide)) rfl T.g_u_law_told F_u_law_told.kp b_u_law_told (fun σ => passAt (takes_of rfl rfl rfl rfl) σ) (pa_cons pe_int (pa_cons (pv 0) (pa_cons (pv 8) pa_nil)))) (pv 4) (nomark _))))))))))))), ?_⟩
  rintro ⟨curve_, prime_, a_, d_, point_, ⟨⟩⟩ F0 H0 Q KP L
  show Blk K F0 H0 KP _ [some (.im (toD curve_)), some (.im (toD prime_)), some (.im (toD a_)), some (.im (toD d_)), some (.im (toD point_)), none, none, none, none, none, none, none] (m_u_law_right_point curve_ prime_ a_ d_ point_)
  unfold m_u_law_right_point
  have hs_ := ((ev_call (f := (fun (p : Int × Int × Int × Unit) => m_u_law_numbers_due p.1 p.2.1 p.2.2.1)) (ea_cons (ev_var (i := 1) (x := prime_) rfl) (ea_cons (ev_var (i := 2) (x := a_) rfl) (ea_cons (ev_var (i := 3) (x := d_) rfl) ea_nil)))) : EvX K (W0 E) [some (.im (toD curve_)), some (.im (toD prime_)), some (.im (toD a_)), some (.im (toD d_)), some (.im (toD point_)), none, none, none, none, none, none, none] _ _)
  refine blk_seq (blk_asg L trivial hs_ (fun _ => (gx_tup (gxs_cons gx_name (gxs_cons gx_name gxs_nil)) rfl)) fun u1593 => ?_)
  show Blk _ _ _ _ _ [some (.im (toD curve_)), some (.im (toD prime_)), some (.im (toD a_)), some (.im (toD d_)), some (.im (toD point_)), some (.im (toD u1593.a)), some (.im (toD u1593.b)), none, none, none, none, none] ((fun (big_ : Int) (small_ : Int) => _) u1593.a u1593.b)
  generalize u1593.a = big_
  generalize u1593.b = small_
  show Blk _ _ _ _ _ [some (.im (toD curve_)), some (.im (toD prime_)), some (.im (toD a_)), some (.im (toD d_)), some (.im (toD point_)), some (.im (toD big_)), some (.im (toD small_)), none, none, none, none, none] _
  try refine Blk.nx ?_
  have hs_ := ((ev_call (f := (fun (p : O_EdwardsCurve × (T2 Int Int) × Unit) => m_to_montgomery p.1 p.2.1)) (ea_cons (ev_var (i := 0) (x := curve_) rfl) (ea_cons (ev_var (i := 4) (x := point_) rfl) ea_nil))) : EvX K (W0 E) [some (.im (toD curve_)), some (.im (toD prime_)), some (.im (toD a_)), some (.im (toD d_)), some (.im (toD point_)), some (.im (toD big_)), some (.im (toD small_)), none, none, none, none, none] _ _)
  refine blk_seq (blk_set (i := 7) L trivial hs_ fun pair_ => ?_)
  show Blk _ _ _ _ _ [some (.im (toD curve_)), some (.im (toD prime_)), some (.im (toD a_)), some (.im (toD d_)), some (.im (toD point_)), some (.im (toD big_)), some (.im (toD small_)), some (.im (toD pair_)), none, none, none, none] _
  try refine Blk.nx ?_
  have ht_ := ((et_or (et_test (ev_op opx_neD mild_need (ev_var (i := 7) (x := pair_) rfl) (ev_call (f := (fun (p : Int × Int × Int × (T2 Int Int) × Unit) => m_u_law_montgomery p.1 p.2.1 p.2.2.1 p.2.2.2.1)) (ea_cons (ev_var (i := 1) (x := prime_) rfl) (ea_cons (ev_var (i := 2) (x := a_) rfl) (ea_cons (ev_var (i := 3) (x := d_) rfl) (ea_cons (ev_var (i := 4) (x := point_) rfl) ea_nil))))))) (et_test (ev_op opx_neD mild_need (ev_call (f := (fun (p : Int × O_EdwardsCurve × D × Unit) => m_u_law_told p.1 p.2.1 p.2.2.1)) (ea_cons (ev_int (i := 0)) (ea_cons (ev_var (i := 0) (x := curve_) rfl) (ea_cons (ev_as (ev_var (i := 7) (x := pair_) rfl) toD (fun _ => rfl) rfl) ea_nil)))) (ev_var (i := 4) (x := point_) rfl)))) : EvT K (W0 E) [some (.im (toD curve_)), some (.im (toD prime_)), some (.im (toD a_)), some (.im (toD d_)), some (.im (toD point_)), some (.im (toD big_)), some (.im (toD small_)), some (.im (toD pair_)), none, none, none, none] _ _)
  refine blk_seq (blk_if2 L trivial ht_ ?_ ?_)
  · have hr_ := ((ev_bl (b := false)) : EvX K (W0 E) [some (.im (toD curve_)), some (.im (toD prime_)), some (.im (toD a_)), some (.im (toD d_)), some (.im (toD point_)), some (.im (toD big_)), some (.im (toD small_)), some (.im (toD pair_)), none, none, none, none] _ _)
    exact blk_ret L trivial hr_
  · refine blk_nil ?_
    try refine Blk.nx ?_
    have hs_ := ((ev_call (f := (fun (p : O_EdwardsCurve × (T2 Int Int) × Unit) => m_to_weierstrass p.1 p.2.1)) (ea_cons (ev_var (i := 0) (x := curve_) rfl) (ea_cons (ev_var (i := 4) (x := point_) rfl) ea_nil))) : EvX K (W0 E) [some (.im (toD curve_)), some (.im (toD prime_)), some (.im (toD a_)), some (.im (toD d_)), some (.im (toD point_)), some (.im (toD big_)), some (.im (toD small_)), some (.im (toD pair_)), none, none, none, none] _ _)
    refine blk_seq (blk_set (i := 8) L trivial hs_ fun image_ => ?_)
    show Blk _ _ _ _ _ [some (.im (toD curve_)), some (.im (toD prime_)), some (.im (toD a_)), some (.im (toD d_)), some (.im (toD point_)), some (.im (toD big_)), some (.im (toD small_)), some (.im (toD pair_)), some (.im (toD image_)), none, none, none] _
    try refine Blk.nx ?_
    have ht_ := ((et_test (ev_op opx_isN mild_ok (ev_var (i := 7) (x := pair_) rfl) ev_non)) : EvT K (W0 E) [some (.im (toD curve_)), some (.im (toD prime_)), some (.im (toD a_)), some (.im (toD d_)), some (.im (toD point_)), some (.im (toD big_)), some (.im (toD small_)), some (.im (toD pair_)), some (.im (toD image_)), none, none, none] _ _)
    refine blk_seq (blk_if2 L trivial ht_ ?_ ?_)
    · have hr_ := ((ev_andV (ev_op opx_isN mild_ok (ev_var (i := 8) (x := image_) rfl) ev_non) (ev_op opx_eqD mild_need (ev_call (f := (fun (p : Int × O_EdwardsCurve × D × Unit) => m_u_law_told p.1 p.2.1 p.2.2.1)) (ea_cons (ev_int (i := 1)) (ea_cons (ev_var (i := 0) (x := curve_) rfl) (ea_cons (ev_as ev_non toD (fun _ => rfl) rfl) ea_nil)))) (ev_var (i := 4) (x := point_) rfl))) : EvX K (W0 E) [some (.im (toD curve_)), some (.im (toD prime_)), some (.im (toD a_)), some (.im (toD d_)), some (.im (toD point_)), some (.im (toD big_)), some (.im (toD small_)), some (.im (toD pair_)), some (.im (toD image_)), none, none, none] _ _)
      exact blk_ret L trivial hr_
    · refine blk_nil ?_
      try refine Blk.nx ?_
      have hs_ := ((ev_castG (f := optGet) optGet_ok optGet_x (ev_var (i := 7) (x := pair_) rfl)) : EvX K (W0 E) [some (.im (toD curve_)), some (.im (toD prime_)), some (.im (toD a_)), some (.im (toD d_)), some (.im (toD point_)), some (.im (toD big_)), some (.im (toD small_)), some (.im (toD pair_)), some (.im (toD image_)), none, none, none] _ _)
      refine blk_seq (blk_asg L trivial hs_ (fun _ => (gx_tup (gxs_cons gx_name (gxs_cons gx_name gxs_nil)) rfl)) fun u1639 => ?_)
      show Blk _ _ _ _ _ [some (.im (toD curve_)), some (.im (toD prime_)), some (.im (toD a_)), some (.im (toD d_)), some (.im (toD point_)), some (.im (toD big_)), some (.im (toD small_)), some (.im (toD pair_)), some (.im (toD image_)), some (.im (toD u1639.a)), some (.im (toD u1639.b)), none] ((fun (u_ : Int) (v_ : Int) => _) u1639.a u1639.b)
      generalize u1639.a = u_
      generalize u1639.b = v_
      show Blk _ _ _ _ _ [some (.im (toD curve_)), some (.im (toD prime_)), some (.im (toD a_)), some (.im (toD d_)), some (.im (toD point_)), some (.im (toD big_)), some (.im (toD small_)), some (.im (toD pair_)), some (.im (toD image_)), some (.im (toD u_)), some (.im (toD v_)), none] _
      try refine Blk.nx ?_
      have ht_ := ((et_test (ev_op opx_neI mild_ok (ev_op (opx_I (C := (fun _ j => 0 < j)) (g := fun i j => i % j)) mild_need (ev_op (opx_I0 (g := fun i j => i - j)) mild_ok (ev_op (opx_I0 (g := fun i j => i - j)) mild_ok (ev_op (opx_I0 (g := fun i j => i - j)) mild_ok (ev_op (opx_I (C := CMulX) (g := fun i j => i * j)) mild_need (ev_op (opx_I (C := CMulX) (g := fun i j => i * j)) mild_need (ev_var (i := 6) (x := small_) rfl) (ev_var (i := 10) (x := v_) rfl)) (ev_var (i := 10) (x := v_) rfl)) (ev_op (opx_I (C := CMulX) (g := fun i j => i * j)) mild_need (ev_op (opx_I (C := CMulX) (g := fun i j => i * j)) mild_need (ev_var (i := 9) (x := u_) rfl) (ev_var (i := 9) (x := u_) rfl)) (ev_var (i := 9) (x := u_) rfl))) (ev_op (opx_I (C := CMulX) (g := fun i j => i * j)) mild_need (ev_op (opx_I (C := CMulX) (g := fun i j => i * j)) mild_need (ev_var (i := 5) (x := big_) rfl) (ev_var (i := 9) (x := u_) rfl)) (ev_var (i := 9) (x := u_) rfl))) (ev_var (i := 9) (x := u_) rfl)) (ev_var (i := 1) (x := prime_) rfl)) (ev_int (i := 0)))) : EvT K (W0 E) [some (.im (toD curve_)), some (.im (toD prime_)), some (.im (toD a_)), some (.im (toD d_)), some (.im (toD point_)), some (.im (toD big_)), some (.im (toD small_)), some (.im (toD pair_)), some (.im (toD image_)), some (.im (toD u_)), some (.im (toD v_)), none] _ _)
      refine blk_seq (blk_if2 L trivial ht_ ?_ ?_)
      · have hr_ := ((ev_bl (b := false)) : EvX K (W0 E) [some (.im (toD curve_)), some (.im (toD prime_)), some (.im (toD a_)), some (.im (toD d_)), some (.im (toD point_)), some (.im (toD big_)), some (.im (toD small_)), some (.im (toD pair_)), some (.im (toD image_)), some (.im (toD u_)), some (.im (toD v_)), none] _ _)
        exact blk_ret L trivial hr_
      · refine blk_nil ?_
        try refine Blk.nx ?_
        have hs_ := ((ev_op (opx_I (C := (fun _ j => 0 < j)) (g := fun i j => i % j)) mild_need (ev_op (opx_I (C := CMulX) (g := fun i j => i * j)) mild_need (ev_op (opx_I0 (g := fun i j => i + j)) mild_ok (ev_var (i := 9) (x := u_) rfl) (ev_op (opx_I (C := CMulX) (g := fun i j => i * j)) mild_need (ev_var (i := 5) (x := big_) rfl) (ev_call (f := (fun (p : Int × Int × Unit) => m_u_law_inverse p.1 p.2.1)) (ea_cons (ev_int (i := 3)) (ea_cons (ev_var (i := 1) (x := prime_) rfl) ea_nil))))) (ev_call (f := (fun (p : Int × Int × Unit) => m_u_law_inverse p.1 p.2.1)) (ea_cons (ev_var (i := 6) (x := small_) rfl) (ea_cons (ev_var (i := 1) (x := prime_) rfl) ea_nil)))) (ev_var (i := 1) (x := prime_) rfl)) : EvX K (W0 E) [some (.im (toD curve_)), some (.im (toD prime_)), some (.im (toD a_)), some (.im (toD d_)), some (.im (toD point_)), some (.im (toD big_)), some (.im (toD small_)), some (.im (toD pair_)), some (.im (toD image_)), some (.im (toD u_)), some (.im (toD v_)), none] _ _)
        refine blk_seq (blk_set (i := 11) L trivial hs_ fun x_ => ?_)
        show Blk _ _ _ _ _ [some (.im (toD curve_)), some (.im (toD prime_)), some (.im (toD a_)), some (.im (toD d_)), some (.im (toD point_)), some (.im (toD big_)), some (.im (toD small_)), some (.im (toD pair_)), some (.im (toD image_)), some (.im (toD u_)), some (.im (toD v_)), some (.im (toD x_))] _
        try refine Blk.nx ?_
        have ht_ := ((et_or (et_test (ev_op opx_neD mild_need (ev_var (i := 8) (x := image_) rfl) (ev_tup (f := (fun y => T2.mk y.1 y.2.1)) (ea_cons (ev_var (i := 11) (x := x_) rfl) (ea_cons (ev_op (opx_I (C := (fun _ j => 0 < j)) (g := fun i j => i % j)) mild_need (ev_op (opx_I (C := CMulX) (g := fun i j => i * j)) mild_need (ev_var (i := 10) (x := v_) rfl) (ev_call (f := (fun (p : Int × Int × Unit) => m_u_law_inverse p.1 p.2.1)) (ea_cons (ev_var (i := 6) (x := small_) rfl) (ea_cons (ev_var (i := 1) (x := prime_) rfl) ea_nil)))) (ev_var (i := 1) (x := prime_) rfl)) ea_nil)) (fun _ => rfl) (fun _ => by show 2 ≤ 100000; decide)))) (et_not (et_B (ev_meth (c := "Curve") (m := "has") (ks := ["prime", "a", "b"]) (f := (fun (p : O_Curve × D × Unit) => m_Curve_has p.1 p.2.1)) (ev_call (f := (fun (p : O_EdwardsCurve × Unit) => m_weierstrass_of p.1)) (ea_cons (ev_var (i := 0) (x := curve_) rfl) ea_nil)) (ea_cons (ev_as (ev_var (i := 8) (x := image_) rfl) toD (fun _ => rfl) rfl) ea_nil) (by decide +kernel) (fun _ => ⟨_, rfl⟩))))) : EvT K (W0 E) [some (.im (toD curve_)), some (.im (toD prime_)), some (.im (toD a_)), some (.im (toD d_)), some (.im (toD point_)), some (.im (toD big_)), some (.im (toD small_)), some (.im (toD pair_)), some (.im (toD image_)), some (.im (toD u_)), some (.im (toD v_)), some (.im (toD x_))] _ _)
        refine blk_seq (blk_if2 L trivial ht_ ?_ ?_)
        · have hr_ := ((ev_bl (b := false)) : EvX K (W0 E) [some (.im (toD curve_)), some (.im (toD prime_)), some (.im (toD a_)), some (.im (toD d_)), some (.im (toD point_)), some (.im (toD big_)), some (.im (toD small_)), some (.im (toD pair_)), some (.im (toD image_)), some (.im (toD u_)), some (.im (toD v_)), some (.im (toD x_))] _ _)
          exact blk_ret L trivial hr_
        · refine blk_nil ?_
          try refine Blk.nx ?_
          have hr_ := ((ev_op opx_eqD mild_need (ev_call (f := (fun (p : Int × O_EdwardsCurve × D × Unit) => m_u_law_told p.1 p.2.1 p.2.2.1)) (ea_cons (ev_int (i := 1)) (ea_cons (ev_var (i := 0) (x := curve_) rfl) (ea_cons (ev_as (ev_var (i := 8) (x := image_) rfl) toD (fun _ => rfl) rfl) ea_nil)))) (ev_var (i := 4) (x := point_) rfl)) : EvX K (W0 E) [some (.im (toD curve_)), some (.im (toD prime_)), some (.im (toD a_)), some (.im (toD d_)), some (.im (toD point_)), some (.im (toD big_)), some (.im (toD small_)), some (.im (toD pair_)), some (.im (toD image_)), some (.im (toD u_)), some (.im (toD v_)), some (.im (toD x_))] _ _)
          exact blk_ret L trivial hr_
noncomputable def m_law_l5 (prime_ : Int) (a_ : Int) (d_ : Int) (curve_ : O_EdwardsCurve) (k5 : Unit → Res Bool) : List (T2 Int Int) → Unit → Res Bool
  | [], s => k5 s
  | x1871 :: r5, _ =>   (fun (point_ : (T2 Int Int)) => (((((Res.ok curve_)).bind fun a1873 => (((Res.ok prime_)).bind fun a1875 => (((Res.ok a_)).bind fun a1877 => (((Res.ok d_)).bind fun a1879 => (((Res.ok point_)).bind fun a1881 => (Res.ok ()).bind fun a1882 => Res.ok (a1881, a1882)).bind fun a1880 => Res.ok (a1879, a1880)).bind fun a1878 => Res.ok (a1877, a1878)).bind fun a1876 => Res.ok (a1875, a1876)).bind fun a1874 => Res.ok (a1873, a1874)).bind fun p1872 => m_u_law_right_point p1872.1 p1872.2.1 p1872.2.2.1 p1872.2.2.2.1 p1872.2.2.2.2.1).bind fun (t1883 : Bool) => Res.ok (!t1883)).bind fun b => cond b   ((Res.ok false))   (m_law_l5 prime_ a_ d_ curve_ k5 r5 ())) x1871
noncomputable def m_law_k8 (script_ : (Ro Int)) (prime_ : Int) (a_ : Int) (d_ : Int) (curve_ : O_EdwardsCurve) (big_ : Int) (small_ : Int) (other_ : O_Curve) (first_ : (T2 Int Int)) (second_ : (T2 Int Int)) : Unit → Res Bool := fun _ =>   ((((Res.ok prime_)).bind fun a1885 => (((Res.ok a_)).bind fun a1887 => (((Res.ok d_)).bind fun a1889 => (((Res.ok first_)).bind fun a1891 => (((Res.ok second_)).bind fun a1893 => (Res.ok ()).bind fun a1894 => Res.ok (a1893, a1894)).bind fun a1892 => Res.ok (a1891, a1892)).bind fun a1890 => Res.ok (a1889, a1890)).bind fun a1888 => Res.ok (a1887, a1888)).bind fun a1886 => Res.ok (a1885, a1886)).bind fun p1884 => m_u_law_add p1884.1 p1884.2.1 p1884.2.2.1 p1884.2.2.2.1 p1884.2.2.2.2.1).bind fun (total_ : (T2 Int Int)) =>   (((((Res.ok curve_)).bind fun a1896 => (((Res.ok total_)).bind fun a1898 => (Res.ok ()).bind fun a1899 => Res.ok (a1898, a1899)).bind fun a1897 => Res.ok (a1896, a1897)).bind fun p1895 => m_to_weierstrass p1895.1 p1895.2.1).bind fun (t1916 : (Option (T2 Int Int))) => (((Res.ok other_)).bind fun (o1910 : O_Curve) => (((((Res.ok curve_)).bind fun a1901 => (((Res.ok first_)).bind fun a1903 => (Res.ok ()).bind fun a1904 => Res.ok (a1903, a1904)).bind fun a1902 => Res.ok (a1901, a1902)).bind fun p1900 => m_to_weierstrass p1900.1 p1900.2.1).bind fun a1912 => (((((Res.ok curve_)).bind fun a1906 => (((Res.ok second_)).bind fun a1908 => (Res.ok ()).bind fun a1909 => Res.ok (a1908, a1909)).bind fun a1907 => Res.ok (a1906, a1907)).bind fun p1905 => m_to_weierstrass p1905.1 p1905.2.1).bind fun a1914 => (Res.ok ()).bind fun a1915 => Res.ok (a1914, a1915)).bind fun a1913 => Res.ok (a1912, a1913)).bind fun p1911 => m_Curve_add o1910 p1911.1 p1911.2.1).bind fun (t1917 : (Option (T2 Int Int))) => Res.need ((toD t1916).okq = true ∧ (toD t1917).okq = true) (Res.ok (!pyEq (toD t1916) (toD t1917)))).bind fun b => cond b   ((Res.ok false))   (((((((Res.ok script_)).bind fun a1919 => (((Res.ok (6 : Int))).bind fun a1921 => (Res.ok ()).bind fun a1922 => Res.ok (a1921, a1922)).bind fun a1920 => Res.ok (a1919, a1920)).bind fun p1918 => m_u_law_cell p1918.1 p1918.2.1).bind fun a1924 => (((Res.ok prime_)).bind fun a1926 => (Res.ok ()).bind fun a1927 => Res.ok (a1926, a1927)).bind fun a1925 => Res.ok (a1924, a1925)).bind fun p1923 => m_u_law_residue p1923.1 p1923.2.1).bind fun (u_ : Int) =>   ((((((Res.ok script_)).bind fun a1929 => (((Res.ok (7 : Int))).bind fun a1931 => (Res.ok ()).bind fun a1932 => Res.ok (a1931, a1932)).bind fun a1930 => Res.ok (a1929, a1930)).bind fun p1928 => m_u_law_cell p1928.1 p1928.2.1).bind fun a1934 => (((Res.ok prime_)).bind fun a1936 => (Res.ok ()).bind fun a1937 => Res.ok (a1936, a1937)).bind fun a1935 => Res.ok (a1934, a1935)).bind fun p1933 => m_u_law_residue p1933.1 p1933.2.1).bind fun (v_ : Int) =>   (((((((((Res.ok small_)).bind fun (t1938 : Int) => ((Res.ok v_)).bind fun (t1939 : Int) => Res.need (CMulX t1938 t1939) (Res.ok (t1938 * t1939))).bind fun (t1940 : Int) => ((Res.ok v_)).bind fun (t1941 : Int) => Res.need (CMulX t1940 t1941) (Res.ok (t1940 * t1941))).bind fun (t1946 : Int) => ((((Res.ok u_)).bind fun (t1942 : Int) => ((Res.ok u_)).bind fun (t1943 : Int) => Res.need (CMulX t1942 t1943) (Res.ok (t1942 * t1943))).bind fun (t1944 : Int) => ((Res.ok u_)).bind fun (t1945 : Int) => Res.need (CMulX t1944 t1945) (Res.ok (t1944 * t1945))).bind fun (t1947 : Int) => Res.ok (t1946 - t1947)).bind fun (t1952 : Int) => ((((Res.ok big_)).bind fun (t1948 : Int) => ((Res.ok u_)).bind fun (t1949 : Int) => Res.need (CMulX t1948 t1949) (Res.ok (t1948 * t1949))).bind fun (t1950 : Int) => ((Res.ok u_)).bind fun (t1951 : Int) => Res.need (CMulX t1950 t1951) (Res.ok (t1950 * t1951))).bind fun (t1953 : Int) => Res.ok (t1952 - t1953)).bind fun (t1954 : Int) => ((Res.ok u_)).bind fun (t1955 : Int) => Res.ok (t1954 - t1955)).bind fun (t1956 : Int) => ((Res.ok prime_)).bind fun (t1957 : Int) => Res.need (0 < t1957) (Res.ok (t1956 % t1957))).bind fun (t1958 : Int) => ((Res.ok (0 : Int))).bind fun (t1959 : Int) => Res.ok (decide (t1958 = t1959))).bind fun (on_ : Bool) =>   (((((((Res.ok (0 : Int))).bind fun a1966 => (((Res.ok curve_)).bind fun a1968 => ((((((Res.ok u_)).bind fun a1961 => (((Res.ok v_)).bind fun a1963 => (Res.ok ()).bind fun a1964 => Res.ok (a1963, a1964)).bind fun a1962 => Res.ok (a1961, a1962)).bind fun p1960 => Res.ok (T2.mk p1960.1 p1960.2.1)).bind fun (x : (T2 Int Int)) => Res.ok (toD x)).bind fun a1970 => (Res.ok ()).bind fun a1971 => Res.ok (a1970, a1971)).bind fun a1969 => Res.ok (a1968, a1969)).bind fun a1967 => Res.ok (a1966, a1967)).bind fun p1965 => m_u_law_told p1965.1 p1965.2.1 p1965.2.2.1).bind fun (t1977 : D) => ((((Res.ok ("refused" : Str))).bind fun a1973 => (((Res.ok ("point" : Str))).bind fun a1975 => (Res.ok ()).bind fun a1976 => Res.ok (a1975, a1976)).bind fun a1974 => Res.ok (a1973, a1974)).bind fun p1972 => Res.ok (T2.mk p1972.1 p1972.2.1)).bind fun (t1978 : (T2 Str Str)) => Res.need ((toD t1977).okq = true ∧ (toD t1978).okq = true) (Res.ok (pyEq (toD t1977) (toD t1978)))).bind fun (t1979 : Bool) => ((Res.ok on_)).bind fun (t1980 : Bool) => Res.ok (t1979 == t1980)).bind fun b2011 => cond b2011 (Res.ok true) ((((((Res.ok (1 : Int))).bind fun a1987 => (((Res.ok curve_)).bind fun a1989 => ((((((Res.ok u_)).bind fun a1982 => (((Res.ok v_)).bind fun a1984 => (Res.ok ()).bind fun a1985 => Res.ok (a1984, a1985)).bind fun a1983 => Res.ok (a1982, a1983)).bind fun p1981 => Res.ok (T2.mk p1981.1 p1981.2.1)).bind fun (x : (T2 Int Int)) => Res.ok (toD x)).bind fun a1991 => (Res.ok ()).bind fun a1992 => Res.ok (a1991, a1992)).bind fun a1990 => Res.ok (a1989, a1990)).bind fun a1988 => Res.ok (a1987, a1988)).bind fun p1986 => m_u_law_told p1986.1 p1986.2.1 p1986.2.2.1).bind fun (t1998 : D) => ((((Res.ok ("refused" : Str))).bind fun a1994 => (((Res.ok ("point" : Str))).bind fun a1996 => (Res.ok ()).bind fun a1997 => Res.ok (a1996, a1997)).bind fun a1995 => Res.ok (a1994, a1995)).bind fun p1993 => Res.ok (T2.mk p1993.1 p1993.2.1)).bind fun (t1999 : (T2 Str Str)) => Res.need ((toD t1998).okq = true ∧ (toD t1999).okq = true) (Res.ok (pyEq (toD t1998) (toD t1999)))).bind fun (t2009 : Bool) => (((Res.ok other_)).bind fun (o2005 : O_Curve) => ((((((Res.ok u_)).bind fun a2001 => (((Res.ok v_)).bind fun a2003 => (Res.ok ()).bind fun a2004 => Res.ok (a2003, a2004)).bind fun a2002 => Res.ok (a2001, a2002)).bind fun p2000 => Res.ok (T2.mk p2000.1 p2000.2.1)).bind fun (x : (T2 Int Int)) => Res.ok (toD x)).bind fun a2007 => (Res.ok ()).bind fun a2008 => Res.ok (a2007, a2008)).bind fun p2006 => m_Curve_has o2005 p2006.1).bind fun (t2010 : Bool) => Res.ok (t2009 == t2010))).bind fun b => cond b   ((Res.ok false))   ((((((Res.ok (0 : Int))).bind fun a2020 => (((Res.ok curve_)).bind fun a2022 => ((((((Res.ok u_)).bind fun a2015 => ((((Res.ok v_)).bind fun (t2012 : Int) => ((Res.ok prime_)).bind fun (t2013 : Int) => Res.ok (t2012 + t2013)).bind fun a2017 => (Res.ok ()).bind fun a2018 => Res.ok (a2017, a2018)).bind fun a2016 => Res.ok (a2015, a2016)).bind fun p2014 => Res.ok (T2.mk p2014.1 p2014.2.1)).bind fun (x : (T2 Int Int)) => Res.ok (toD x)).bind fun a2024 => (Res.ok ()).bind fun a2025 => Res.ok (a2024, a2025)).bind fun a2023 => Res.ok (a2022, a2023)).bind fun a2021 => Res.ok (a2020, a2021)).bind fun p2019 => m_u_law_told p2019.1 p2019.2.1 p2019.2.2.1).bind fun (t2031 : D) => ((((Res.ok ("refused" : Str))).bind fun a2027 => (((Res.ok ("point" : Str))).bind fun a2029 => (Res.ok ()).bind fun a2030 => Res.ok (a2029, a2030)).bind fun a2028 => Res.ok (a2027, a2028)).bind fun p2026 => Res.ok (T2.mk p2026.1 p2026.2.1)).bind fun (t2032 : (T2 Str Str)) => Res.need ((toD t2031).okq = true ∧ (toD t2032).okq = true) (Res.ok (pyEq (toD t2031) (toD t2032)))).bind fun b2072 => cond b2072 ((((((Res.ok (1 : Int))).bind fun a2041 => (((Res.ok curve_)).bind fun a2043 => (((((((Res.ok u_)).bind fun (t2033 : Int) => ((Res.ok prime_)).bind fun (t2034 : Int) => Res.ok (t2033 - t2034)).bind fun a2036 => (((Res.ok v_)).bind fun a2038 => (Res.ok ()).bind fun a2039 => Res.ok (a2038, a2039)).bind fun a2037 => Res.ok (a2036, a2037)).bind fun p2035 => Res.ok (T2.mk p2035.1 p2035.2.1)).bind fun (x : (T2 Int Int)) => Res.ok (toD x)).bind fun a2045 => (Res.ok ()).bind fun a2046 => Res.ok (a2045, a2046)).bind fun a2044 => Res.ok (a2043, a2044)).bind fun a2042 => Res.ok (a2041, a2042)).bind fun p2040 => m_u_law_told p2040.1 p2040.2.1 p2040.2.2.1).bind fun (t2052 : D) => ((((Res.ok ("refused" : Str))).bind fun a2048 => (((Res.ok ("point" : Str))).bind fun a2050 => (Res.ok ()).bind fun a2051 => Res.ok (a2050, a2051)).bind fun a2049 => Res.ok (a2048, a2049)).bind fun p2047 => Res.ok (T2.mk p2047.1 p2047.2.1)).bind fun (t2053 : (T2 Str Str)) => Res.need ((toD t2052).okq = true ∧ (toD t2053).okq = true) (Res.ok (pyEq (toD t2052) (toD t2053)))).bind fun b2071 => cond b2071 (((((Res.ok (0 : Int))).bind fun a2058 => (((Res.ok curve_)).bind fun a2060 => ((((((Res.ok u_)).bind fun a2055 => (Res.ok ()).bind fun a2056 => Res.ok (a2055, a2056)).bind fun p2054 => Res.ok ([p2054.1] : List Int)).bind fun (x : (List Int)) => Res.ok (toD x)).bind fun a2062 => (Res.ok ()).bind fun a2063 => Res.ok (a2062, a2063)).bind fun a2061 => Res.ok (a2060, a2061)).bind fun a2059 => Res.ok (a2058, a2059)).bind fun p2057 => m_u_law_told p2057.1 p2057.2.1 p2057.2.2.1).bind fun (t2069 : D) => ((((Res.ok ("refused" : Str))).bind fun a2065 => (((Res.ok ("point" : Str))).bind fun a2067 => (Res.ok ()).bind fun a2068 => Res.ok (a2067, a2068)).bind fun a2066 => Res.ok (a2065, a2066)).bind fun p2064 => Res.ok (T2.mk p2064.1 p2064.2.1)).bind fun (t2070 : (T2 Str Str)) => Res.need ((toD t2069).okq = true ∧ (toD t2070).okq = true) (Res.ok (pyEq (toD t2069) (toD t2070)))) (Res.ok false)) (Res.ok false)))
noncomputable def m_law_k4 (script_ : (Ro Int)) (prime_ : Int) (a_ : Int) (d_ : Int) (curve_ : O_EdwardsCurve) (big_ : Int) (small_ : Int) (other_ : O_Curve) (second_ : (T2 Int Int)) : (T2 Int Int) → Res Bool := fun first_ =>   ((((Res.ok first_)).bind fun a1863 => (((Res.ok second_)).bind fun a1865 => (((((Res.ok (0 : Int))).bind fun a1851 => (((Res.ok (1 : Int))).bind fun a1853 => (Res.ok ()).bind fun a1854 => Res.ok (a1853, a1854)).bind fun a1852 => Res.ok (a1851, a1852)).bind fun p1850 => Res.ok (T2.mk p1850.1 p1850.2.1)).bind fun a1867 => (((((Res.ok (0 : Int))).bind fun a1858 => ((((Res.ok prime_)).bind fun (t1855 : Int) => ((Res.ok (1 : Int))).bind fun (t1856 : Int) => Res.ok (t1855 - t1856)).bind fun a1860 => (Res.ok ()).bind fun a1861 => Res.ok (a1860, a1861)).bind fun a1859 => Res.ok (a1858, a1859)).bind fun p1857 => Res.ok (T2.mk p1857.1 p1857.2.1)).bind fun a1869 => (Res.ok ()).bind fun a1870 => Res.ok (a1869, a1870)).bind fun a1868 => Res.ok (a1867, a1868)).bind fun a1866 => Res.ok (a1865, a1866)).bind fun a1864 => Res.ok (a1863, a1864)).bind fun p1862 => Res.ok ([p1862.1, p1862.2.1, p1862.2.2.1, p1862.2.2.2.1] : List (T2 Int Int))).bind fun (xs2073 : List (T2 Int Int)) => m_law_l5 prime_ a_ d_ curve_ (m_law_k8 script_ prime_ a_ d_ curve_ big_ small_ other_ first_ second_) xs2073 ()
noncomputable def m_law_k3 (script_ : (Ro Int)) (prime_ : Int) (a_ : Int) (d_ : Int) (curve_ : O_EdwardsCurve) (big_ : Int) (small_ : Int) (other_ : O_Curve) (first_ : (T2 Int Int)) (kind_ : Int) : (T2 Int Int) → Res Bool := fun second_ =>   ((((Res.ok kind_)).bind fun (t1839 : Int) => ((Res.ok (2 : Int))).bind fun (t1840 : Int) => Res.ok (decide (t1839 = t1840))).bind fun b1849 => cond b1849 ((((Res.ok curve_)).bind fun (o1841 : O_EdwardsCurve) => (((Res.ok (0 : Int))).bind fun a1843 => (((Res.ok true)).bind fun a1845 => (Res.ok ()).bind fun a1846 => Res.ok (a1845, a1846)).bind fun a1844 => Res.ok (a1843, a1844)).bind fun p1842 => m_EdwardsCurve_lift o1841 p1842.1 p1842.2.1).bind fun (t1847 : (Option (T2 Int Int))) => ((Res.ok ())).bind fun (t1848 : Unit) => Res.ok (!(toD t1847).isNon)) (Res.ok false)).bind fun b => cond b   (((((Res.ok curve_)).bind fun (o2074 : O_EdwardsCurve) => (((Res.ok (0 : Int))).bind fun a2076 => (((Res.ok true)).bind fun a2078 => (Res.ok ()).bind fun a2079 => Res.ok (a2078, a2079)).bind fun a2077 => Res.ok (a2076, a2077)).bind fun p2075 => m_EdwardsCurve_lift o2074 p2075.1 p2075.2.1).bind optGet).bind fun (first_ : (T2 Int Int)) =>   (m_law_k4 script_ prime_ a_ d_ curve_ big_ small_ other_ second_) first_)   ((m_law_k4 script_ prime_ a_ d_ curve_ big_ small_ other_ second_) first_)
noncomputable def m_law (script_ : (Ro Int)) : Res Bool :=
  ((((((Res.ok script_)).bind fun a1715 => (((Res.ok (0 : Int))).bind fun a1717 => (Res.ok ()).bind fun a1718 => Res.ok (a1717, a1718)).bind fun a1716 => Res.ok (a1715, a1716)).bind fun p1714 => m_u_law_cell p1714.1 p1714.2.1).bind fun a1720 => (Res.ok ()).bind fun a1721 => Res.ok (a1720, a1721)).bind fun p1719 => m_u_law_edwards_prime p1719.1).bind fun (prime_ : Int) =>   ((((Res.ok script_)).bind fun a1723 => (((Res.ok (1 : Int))).bind fun a1725 => (((Res.ok prime_)).bind fun a1727 => (Res.ok ()).bind fun a1728 => Res.ok (a1727, a1728)).bind fun a1726 => Res.ok (a1725, a1726)).bind fun a1724 => Res.ok (a1723, a1724)).bind fun p1722 => m_u_law_numbers p1722.1 p1722.2.1 p1722.2.2.1).bind fun (u1729 : (T2 Int Int)) =>   (fun (a_ : Int) (d_ : Int) => ((((Res.ok prime_)).bind fun a1731 => (((Res.ok a_)).bind fun a1733 => (((Res.ok d_)).bind fun a1735 => (Res.ok ()).bind fun a1736 => Res.ok (a1735, a1736)).bind fun a1734 => Res.ok (a1733, a1734)).bind fun a1732 => Res.ok (a1731, a1732)).bind fun p1730 => m_EdwardsCurve_init p1730.1 p1730.2.1 p1730.2.2.1).bind fun (curve_ : O_EdwardsCurve) =>   (((((Res.ok curve_)).bind fun a1738 => (Res.ok ()).bind fun a1739 => Res.ok (a1738, a1739)).bind fun p1737 => m_montgomery_numbers p1737.1).bind fun (t1747 : (T2 Int Int)) => ((((Res.ok prime_)).bind fun a1741 => (((Res.ok a_)).bind fun a1743 => (((Res.ok d_)).bind fun a1745 => (Res.ok ()).bind fun a1746 => Res.ok (a1745, a1746)).bind fun a1744 => Res.ok (a1743, a1744)).bind fun a1742 => Res.ok (a1741, a1742)).bind fun p1740 => m_u_law_numbers_due p1740.1 p1740.2.1 p1740.2.2.1).bind fun (t1748 : (T2 Int Int)) => Res.need ((toD t1747).okq = true ∧ (toD t1748).okq = true) (Res.ok (!pyEq (toD t1747) (toD t1748)))).bind fun b => cond b   ((Res.ok false))   (((((Res.ok prime_)).bind fun a1750 => (((Res.ok a_)).bind fun a1752 => (((Res.ok d_)).bind fun a1754 => (Res.ok ()).bind fun a1755 => Res.ok (a1754, a1755)).bind fun a1753 => Res.ok (a1752, a1753)).bind fun a1751 => Res.ok (a1750, a1751)).bind fun p1749 => m_u_law_numbers_due p1749.1 p1749.2.1 p1749.2.2.1).bind fun (u1756 : (T2 Int Int)) =>   (fun (big_ : Int) (small_ : Int) => ((((Res.ok curve_)).bind fun a1758 => (Res.ok ()).bind fun a1759 => Res.ok (a1758, a1759)).bind fun p1757 => m_weierstrass_of p1757.1).bind fun (other_ : O_Curve) =>   ((((((Res.ok other_)).bind fun (t1760 : O_Curve) => Res.ok t1760.f_prime).bind fun a1764 => ((((Res.ok other_)).bind fun (t1761 : O_Curve) => Res.ok t1761.f_a).bind fun a1766 => ((((Res.ok other_)).bind fun (t1762 : O_Curve) => Res.ok t1762.f_b).bind fun a1768 => (Res.ok ()).bind fun a1769 => Res.ok (a1768, a1769)).bind fun a1767 => Res.ok (a1766, a1767)).bind fun a1765 => Res.ok (a1764, a1765)).bind fun p1763 => Res.ok (T3.mk p1763.1 p1763.2.1 p1763.2.2.1)).bind fun (t1793 : (T3 Int Int Int)) => ((((Res.ok prime_)).bind fun a1787 => ((((((Res.ok prime_)).bind fun a1771 => (((Res.ok big_)).bind fun a1773 => (((Res.ok small_)).bind fun a1775 => (Res.ok ()).bind fun a1776 => Res.ok (a1775, a1776)).bind fun a1774 => Res.ok (a1773, a1774)).bind fun a1772 => Res.ok (a1771, a1772)).bind fun p1770 => m_u_law_shape p1770.1 p1770.2.1 p1770.2.2.1).bind fun (t1777 : (T2 Int Int)) => Res.ok t1777.a).bind fun a1789 => ((((((Res.ok prime_)).bind fun a1779 => (((Res.ok big_)).bind fun a1781 => (((Res.ok small_)).bind fun a1783 => (Res.ok ()).bind fun a1784 => Res.ok (a1783, a1784)).bind fun a1782 => Res.ok (a1781, a1782)).bind fun a1780 => Res.ok (a1779, a1780)).bind fun p1778 => m_u_law_shape p1778.1 p1778.2.1 p1778.2.2.1).bind fun (t1785 : (T2 Int Int)) => Res.ok t1785.b).bind fun a1791 => (Res.ok ()).bind fun a1792 => Res.ok (a1791, a1792)).bind fun a1790 => Res.ok (a1789, a1790)).bind fun a1788 => Res.ok (a1787, a1788)).bind fun p1786 => Res.ok (T3.mk p1786.1 p1786.2.1 p1786.2.2.1)).bind fun (t1794 : (T3 Int Int Int)) => Res.need ((toD t1793).okq = true ∧ (toD t1794).okq = true) (Res.ok (!pyEq (toD t1793) (toD t1794)))).bind fun b => cond b   ((Res.ok false))   (((((Res.ok curve_)).bind fun a1801 => (((Res.ok prime_)).bind fun a1803 => (((Res.ok a_)).bind fun a1805 => (((Res.ok d_)).bind fun a1807 => (((((Res.ok script_)).bind fun a1796 => (((Res.ok (3 : Int))).bind fun a1798 => (Res.ok ()).bind fun a1799 => Res.ok (a1798, a1799)).bind fun a1797 => Res.ok (a1796, a1797)).bind fun p1795 => m_u_law_cell p1795.1 p1795.2.1).bind fun a1809 => (Res.ok ()).bind fun a1810 => Res.ok (a1809, a1810)).bind fun a1808 => Res.ok (a1807, a1808)).bind fun a1806 => Res.ok (a1805, a1806)).bind fun a1804 => Res.ok (a1803, a1804)).bind fun a1802 => Res.ok (a1801, a1802)).bind fun p1800 => m_u_law_lifted p1800.1 p1800.2.1 p1800.2.2.1 p1800.2.2.2.1 p1800.2.2.2.2.1).bind fun (first_ : (T2 Int Int)) =>   ((((Res.ok curve_)).bind fun a1817 => (((Res.ok prime_)).bind fun a1819 => (((Res.ok a_)).bind fun a1821 => (((Res.ok d_)).bind fun a1823 => (((((Res.ok script_)).bind fun a1812 => (((Res.ok (4 : Int))).bind fun a1814 => (Res.ok ()).bind fun a1815 => Res.ok (a1814, a1815)).bind fun a1813 => Res.ok (a1812, a1813)).bind fun p1811 => m_u_law_cell p1811.1 p1811.2.1).bind fun a1825 => (Res.ok ()).bind fun a1826 => Res.ok (a1825, a1826)).bind fun a1824 => Res.ok (a1823, a1824)).bind fun a1822 => Res.ok (a1821, a1822)).bind fun a1820 => Res.ok (a1819, a1820)).bind fun a1818 => Res.ok (a1817, a1818)).bind fun p1816 => m_u_law_lifted p1816.1 p1816.2.1 p1816.2.2.1 p1816.2.2.2.1 p1816.2.2.2.2.1).bind fun (second_ : (T2 Int Int)) =>   (((((((Res.ok script_)).bind fun a1828 => (((Res.ok (5 : Int))).bind fun a1830 => (Res.ok ()).bind fun a1831 => Res.ok (a1830, a1831)).bind fun a1829 => Res.ok (a1828, a1829)).bind fun p1827 => m_u_law_cell p1827.1 p1827.2.1).bind fun a1833 => (Res.ok ()).bind fun a1834 => Res.ok (a1833, a1834)).bind fun p1832 => Res.ok (Int.natAbs p1832.1 : Int)).bind fun (t1835 : Int) => ((Res.ok (6 : Int))).bind fun (t1836 : Int) => Res.ok (t1835 % t1836)).bind fun (kind_ : Int) =>   (((Res.ok kind_)).bind fun (t1837 : Int) => ((Res.ok (1 : Int))).bind fun (t1838 : Int) => Res.ok (decide (t1837 = t1838))).bind fun b => cond b   ((((((((Res.ok (0 : Int))).bind fun a2081 => (((Res.ok (1 : Int))).bind fun a2083 => (Res.ok ()).bind fun a2084 => Res.ok (a2083, a2084)).bind fun a2082 => Res.ok (a2081, a2082)).bind fun p2080 => Res.ok (T2.mk p2080.1 p2080.2.1)).bind fun a2103 => (((((Res.ok (0 : Int))).bind fun a2088 => ((((Res.ok prime_)).bind fun (t2085 : Int) => ((Res.ok (1 : Int))).bind fun (t2086 : Int) => Res.ok (t2085 - t2086)).bind fun a2090 => (Res.ok ()).bind fun a2091 => Res.ok (a2090, a2091)).bind fun a2089 => Res.ok (a2088, a2089)).bind fun p2087 => Res.ok (T2.mk p2087.1 p2087.2.1)).bind fun a2105 => (((Res.ok first_)).bind fun a2107 => ((((((((Res.ok first_)).bind fun (t2092 : (T2 Int Int)) => Res.ok t2092.a).bind fun (t2093 : Int) => Res.ok (-t2093)).bind fun (t2094 : Int) => ((Res.ok prime_)).bind fun (t2095 : Int) => Res.need (0 < t2095) (Res.ok (t2094 % t2095))).bind fun a2098 => ((((Res.ok first_)).bind fun (t2096 : (T2 Int Int)) => Res.ok t2096.b).bind fun a2100 => (Res.ok ()).bind fun a2101 => Res.ok (a2100, a2101)).bind fun a2099 => Res.ok (a2098, a2099)).bind fun p2097 => Res.ok (T2.mk p2097.1 p2097.2.1)).bind fun a2109 => (Res.ok ()).bind fun a2110 => Res.ok (a2109, a2110)).bind fun a2108 => Res.ok (a2107, a2108)).bind fun a2106 => Res.ok (a2105, a2106)).bind fun a2104 => Res.ok (a2103, a2104)).bind fun p2102 => Res.ok ([p2102.1, p2102.2.1, p2102.2.2.1, p2102.2.2.2.1] : List (T2 Int Int))).bind fun (t2123 : (List (T2 Int Int))) => ((((((((Res.ok script_)).bind fun a2112 => (((Res.ok (5 : Int))).bind fun a2114 => (Res.ok ()).bind fun a2115 => Res.ok (a2114, a2115)).bind fun a2113 => Res.ok (a2112, a2113)).bind fun p2111 => m_u_law_cell p2111.1 p2111.2.1).bind fun a2117 => (Res.ok ()).bind fun a2118 => Res.ok (a2117, a2118)).bind fun p2116 => Res.ok (Int.natAbs p2116.1 : Int)).bind fun (t2119 : Int) => ((Res.ok (6 : Int))).bind fun (t2120 : Int) => Res.ok (t2119 / t2120)).bind fun (t2121 : Int) => ((Res.ok (4 : Int))).bind fun (t2122 : Int) => Res.ok (t2121 % t2122)).bind fun (t2124 : Int) => idx t2123 t2124).bind fun (second_ : (T2 Int Int)) =>   (m_law_k3 script_ prime_ a_ d_ curve_ big_ small_ other_ first_ kind_) second_)   ((m_law_k3 script_ prime_ a_ d_ curve_ big_ small_ other_ first_ kind_) second_))) u1756.a u1756.b)) u1729.a u1729.b
theorem ok_law {P : Program} {w : World} {K : PySem.W.Frag} {mg : Str → Option Value} {base : Heap} (T : Facts K mg) {fd : FuncData} (F : FnP K "law" "law" s_law (He.ga K "law") fd) :
    FnOk P w K mg base (L2.CX P w) 9 (He.ga K "law") fd ["script"] (spM K (fun (p : (Ro Int) × Unit) => m_law p.1)) := by
  obtain ⟨fd_Curve_add, F_Curve_add⟩ := T.d_Curve_add
  have G_Curve_add := ok_Curve_add (P := P) (w := w) (base := base) T F_Curve_add
  have b_Curve_add : Binds K fd_Curve_add ["self", "first", "second"] [] := F_Curve_add.bindsN fun _ _ _ _ _ _ us hl => match us, hl with | [_, _, _], _ => rfl
  obtain ⟨fd_Curve_has, F_Curve_has⟩ := T.d_Curve_has
  have G_Curve_has := ok_Curve_has (P := P) (w := w) (base := base) T F_Curve_has
  have b_Curve_has : Binds K fd_Curve_has ["self", "point"] [] := F_Curve_has.bindsN fun _ _ _ _ _ _ us hl => match us, hl with | [_, _], _ => rfl
  obtain ⟨fd_EdwardsCurve_init, F_EdwardsCurve_init⟩ := T.d_EdwardsCurve_init
  have G_EdwardsCurve_init := ok_EdwardsCurve_init (P := P) (w := w) (base := base) T F_EdwardsCurve_init
  have b_EdwardsCurve_init : Binds K fd_EdwardsCurve_init ["self", "prime", "a", "d"] [] := F_EdwardsCurve_init.bindsN fun _ _ _ _ _ _ us hl => match us, hl with | [_, _, _, _], _ => rfl
  obtain ⟨fd_EdwardsCurve_lift, F_EdwardsCurve_lift⟩ := T.d_EdwardsCurve_lift
  have G_EdwardsCurve_lift := ok_EdwardsCurve_lift (P := P) (w := w) (base := base) T F_EdwardsCurve_lift
  have b_EdwardsCurve_lift : Binds K fd_EdwardsCurve_lift ["self", "y", "odd"] [] := F_EdwardsCurve_lift.bindsN fun _ _ _ _ _ _ us hl => match us, hl with | [_, _, _], _ => rfl
  obtain ⟨fd_u_law_add, F_u_law_add⟩ := T.d_u_law_add
  have G_u_law_add := ok_u_law_add (P := P) (w := w) (base := base) T F_u_law_add
  have b_u_law_add : Binds K fd_u_law_add ["prime", "a", "d", "first", "second"] [] := F_u_law_add.bindsN fun _ _ _ _ _ _ us hl => match us, hl with | [_, _, _, _, _], _ => rfl
  obtain ⟨fd_u_law_cell, F_u_law_cell⟩ := T.d_u_law_cell
  have G_u_law_cell := ok_u_law_cell (P := P) (w := w) (base := base) T F_u_law_cell
  have b_u_law_cell : Binds K fd_u_law_cell ["script", "k"] [] := F_u_law_cell.bindsN fun _ _ _ _ _ _ us hl => match us, hl with | [_, _], _ => rfl
  obtain ⟨fd_u_law_edwards_prime, F_u_law_edwards_prime⟩ := T.d_u_law_edwards_prime
  have G_u_law_edwards_prime := ok_u_law_edwards_prime (P := P) (w := w) (base := base) T F_u_law_edwards_prime
  have b_u_law_edwards_prime : Binds K fd_u_law_edwards_prime ["cell"] [] := F_u_law_edwards_prime.bindsN fun _ _ _ _ _ _ us hl => match us, hl with | [_], _ => rfl
  obtain ⟨fd_u_law_lifted, F_u_law_lifted⟩ := T.d_u_law_lifted
  have G_u_law_lifted := ok_u_law_lifted (P := P) (w := w) (base := base) T F_u_law_lifted
  have b_u_law_lifted : Binds K fd_u_law_lifted ["curve", "prime", "a", "d", "cell"] [] := F_u_law_lifted.bindsN fun _ _ _ _ _ _ us hl => match us, hl with | [_, _, _, _, _], _ => rfl
  obtain ⟨fd_u_law_numbers, F_u_law_numbers⟩ := T.d_u_law_numbers
  have G_u_law_numbers := ok_u_law_numbers (P := P) (w := w) (base := base) T F_u_law_numbers
  have b_u_law_numbers : Binds K fd_u_law_numbers ["script", "at", "prime"] [] := F_u_law_numbers.bindsN fun _ _ _ _ _ _ us hl => match us, hl with | [_, _, _], _ => rfl
  obtain ⟨fd_u_law_numbers_due, F_u_law_numbers_due⟩ := T.d_u_law_numbers_due
  have G_u_law_numbers_due := ok_u_law_numbers_due (P := P) (w := w) (base := base) T F_u_law_numbers_due
  have b_u_law_numbers_due : Binds K fd_u_law_numbers_due ["prime", "a", "d"] [] := F_u_law_numbers_due.bindsN fun _ _ _ _ _ _ us hl => match us, hl with | [_, _, _], _ => rfl
  obtain ⟨fd_u_law_residue, F_u_law_residue⟩ := T.d_u_law_residue
  have G_u_law_residue := ok_u_law_residue (P := P) (w := w) (base := base) T F_u_law_residue
  have b_u_law_residue : Binds K fd_u_law_residue ["cell", "prime"] [] := F_u_law_residue.bindsN fun _ _ _ _ _ _ us hl => match us, hl with | [_, _], _ => rfl
  obtain ⟨fd_u_law_right_point, F_u_law_right_point⟩ := T.d_u_law_right_point
  have G_u_law_right_point := ok_u_law_right_point (P := P) (w := w) (base := base) T F_u_law_right_point
  have b_u_law_right_point : Binds K fd_u_law_right_point ["curve", "prime", "a", "d", "point"] [] := F_u_law_right_point.bindsN fun _ _ _ _ _ _ us hl => match us, hl with | [_, _, _, _, _], _ => rfl
  obtain ⟨fd_u_law_shape, F_u_law_shape⟩ := T.d_u_law_shape
  have G_u_law_shape := ok_u_law_shape (P := P) (w := w) (base := base) T F_u_law_shape
  have b_u_law_shape : Binds K fd_u_law_shape ["prime", "big", "small"] [] := F_u_law_shape.bindsN fun _ _ _ _ _ _ us hl => match us, hl with | [_, _, _], _ => rfl
  obtain ⟨fd_u_law_told, F_u_law_told⟩ := T.d_u_law_told
  have G_u_law_told := ok_u_law_told (P := P) (w := w) (base := base) T F_u_law_told
  have b_u_law_told : Binds K fd_u_law_told ["which", "curve", "pair"] [] := F_u_law_told.bindsN fun _ _ _ _ _ _ us hl => match us, hl with | [_, _, _], _ => rfl
  obtain ⟨fd_montgomery_numbers, F_montgomery_numbers⟩ := T.d_montgomery_numbers
  have G_montgomery_numbers := ok_montgomery_numbers (P := P) (w := w) (base := base) T F_montgomery_numbers
  have b_montgomery_numbers : Binds K fd_montgomery_numbers ["curve"] [] := F_montgomery_numbers.bindsN fun _ _ _ _ _ _ us hl => match us, hl with | [_], _ => rfl
  obtain ⟨fd_to_weierstrass, F_to_weierstrass⟩ := T.d_to_weierstrass
  have G_to_weierstrass := ok_to_weierstrass (P := P) (w := w) (base := base) T F_to_weierstrass
  have b_to_weierstrass : Binds K fd_to_weierstrass ["curve", "point"] [] := F_to_weierstrass.bindsN fun _ _ _ _ _ _ us hl => match us, hl with | [_, _], _ => rfl
  obtain ⟨fd_weierstrass_of, F_weierstrass_of⟩ := T.d_weierstrass_of
  have G_weierstrass_of := ok_weierstrass_of (P := P) (w := w) (base := base) T F_weierstrass_of
  have b_weierstrass_of : Binds K fd_weierstrass_of ["curve"] [] := F_weierstrass_of.bindsN fun _ _ _ _ _ _ us hl => match us, hl with | [_], _ => rfl
  refine fn_ok F sc_law (fun y => rfl) (fun cdv A outer s H E hr => ?_)
  refine ⟨_, (pss_cons (ps_set (i := 1) sc_law.nd rfl (Or.inl rfl) (pe_callS G_u_law_edwards_prime (hr.mono (by decide)) rfl T.g_u_law_edwards_prime F_u_law_edwards_prime.kp b_u_law_edwards_prime (fun σ => passAt (takes_of rfl rfl rfl rfl) σ) (pa_cons (pe_callS G_u_law_cell (hr.mono (by decide)) rfl T.g_u_law_cell F_u_law_cell.kp b_u_law_cell (fun σ => passAt (takes_of rfl rfl rfl rfl) σ) (pa_cons (pv 0) (pa_cons pe_int pa_nil))) pa_nil))) (pss_cons (ps_asg (pe_callS G_u_law_numbers (hr.mono (by decide)) rfl T.g_u_law_numbers F_u_law_numbers.kp b_u_law_numbers (fun σ => passAt (takes_of rfl rfl rfl rfl) σ) (pa_cons (pv 0) (pa_cons pe_int (pa_cons (pv 1) pa_nil)))) (pg_tup rfl (pgs_cons (pg_name (i := 2) sc_law.nd rfl (Or.inl rfl)) (pgs_cons (pg_name (i := 3) sc_law.nd rfl (Or.inl rfl)) pgs_nil)))) (pss_cons (ps_set (i := 4) sc_law.nd rfl (Or.inl rfl) (pe_makeQ T.mk_EdwardsCurve G_EdwardsCurve_init (hr.mono (by decide)) rfl T.g_EdwardsCurve b_EdwardsCurve_init (fun σ => passAt (takes_of rfl rfl rfl rfl) σ) (pa_cons (pv 1) (pa_cons (pv 2) (pa_cons (pv 3) pa_nil))))) (pss_cons (ps_if (pt_cmpR (op_neD (Room.units hr)) (pe_callS G_montgomery_numbers (hr.mono (by decide)) rfl T.g_montgomery_numbers F_montgomery_numbers.kp b_montgomery_numbers (fun σ => passAt (takes_of rfl rfl rfl rfl) σ) (pa_cons (pv 4) pa_nil)) (pe_callS G_u_law_numbers_due (hr.mono (by decide)) rfl T.g_u_law_numbers_due F_u_law_numbers_due.kp b_u_law_numbers_due (fun σ => passAt (takes_of rfl rfl rfl rfl) σ) (pa_cons (pv 1) (pa_cons (pv 2) (pa_cons (pv 3) pa_nil)))) (nomark _)) (pss_one (ps_ret pe_bl)) pss_nil) (pss_cons (ps_asg (pe_callS G_u_law_numbers_due (hr.mono (by decide)) rfl T.g_u_law_numbers_due F_u_law_numbers_due.kp b_u_law_numbers_due (fun σ => passAt (takes_of rfl rfl rfl rfl) σ) (pa_cons (pv 1) (pa_cons (pv 2) (pa_cons (pv 3) pa_nil)))) (pg_tup rfl (pgs_cons (pg_name (i := 5) sc_law.nd rfl (Or.inl rfl)) (pgs_cons (pg_name (i := 6) sc_law.nd rfl (Or.inl rfl)) pgs_nil)))) (pss_cons (ps_set (i := 7) sc_law.nd rfl (Or.inl rfl) (pe_callS G_weierstrass_of (hr.mono (by decide)) rfl T.g_weierstrass_of F_weierstrass_of.kp b_weierstrass_of (fun σ => passAt (takes_of rfl rfl rfl rfl) σ) (pa_cons (pv 4) pa_nil))) (pss_cons (ps_if (pt_cmpR (op_neD (Room.units hr)) (pe_tup (pa_cons (pe_fld (pv 7) rfl) (pa_cons (pe_fld (pv 7) rfl) (pa_cons (pe_fld (pv 7) rfl) pa_nil)))) (pe_tup (pa_cons (pv 1) (pa_cons (pe_ix (cr_ixT rfl) (pe_callS G_u_law_shape (hr.mono (by decide)) rfl T.g_u_law_shape F_u_law_shape.kp b_u_law_shape (fun σ => passAt (takes_of rfl rfl rfl rfl) σ) (pa_cons (pv 1) (pa_cons (pv 5) (pa_cons (pv 6) pa_nil)))) pe_int (fun _ _ => rfl)) (pa_cons (pe_ix (cr_ixT rfl) (pe_callS G_u_law_shape (hr.mono (by decide)) rfl T.g_u_law_shape F_u_law_shape.kp b_u_law_shape (fun σ => passAt (takes_of rfl rfl rfl rfl) σ) (pa_cons (pv 1) (pa_cons (pv 5) (pa_cons (pv 6) pa_nil)))) pe_int (fun _ _ => rfl)) pa_nil)))) (nomark _)) (pss_one (ps_ret pe_bl)) pss_nil) (pss_cons (ps_set (i := 8) sc_law.nd rfl (Or.inl rfl) (pe_callS G_u_law_lifted (hr.mono (by decide)) rfl T.g_u_law_lifted F_u_law_lifted.kp b_u_law_lifted (fun σ => passAt (takes_of rfl rfl rfl rfl) σ) (pa_cons (pv 4) (pa_cons (pv 1) (pa_cons (pv 2) (pa_cons (pv 3) (pa_cons (pe_callS G_u_law_cell (hr.mono (by decide)) rfl T.g_u_law_cell F_u_law_cell.kp b_u_law_cell (fun σ => passAt (takes_of rfl rfl rfl rfl) σ) (pa_cons (pv 0) (pa_cons pe_int pa_nil))) pa_nil))))))) (pss_cons (ps_set (i := 9) sc_law.nd rfl (Or.inl rfl) (pe_callS G_u_law_lifted (hr.mono (by decide)) rfl T.g_u_law_lifted F_u_law_lifted.kp b_u_law_lifted (fun σ => passAt (takes_of rfl rfl rfl rfl) σ) (pa_cons (pv 4) (pa_cons (pv 1) (pa_cons (pv 2) (pa_cons (pv 3) (pa_cons (pe_callS G_u_law_cell (hr.mono (by decide)) rfl T.g_u_law_cell F_u_law_cell.kp b_u_law_cell (fun σ => passAt (takes_of rfl rfl rfl rfl) σ) (pa_cons (pv 0) (pa_cons pe_int pa_nil))) pa_nil))))))) (pss_cons (ps_set (i := 10) sc_law.nd rfl (Or.inl rfl) (pe_op op_mod (pe_callB call_abs (by rfl) T.n_abs (by decide +kernel) (pa_cons (pe_callS G_u_law_cell (hr.mono (by decide)) rfl T.g_u_law_cell F_u_law_cell.kp b_u_law_cell (fun σ => passAt (takes_of rfl rfl rfl rfl) σ) (pa_cons (pv 0) (pa_cons pe_int pa_nil))) pa_nil)) pe_int)) (pss_cons (ps_if (pt_cmpR op_eq (pv 10) pe_int (nomark _)) (pss_one (ps_set (i := 9) sc_law.nd rfl (Or.inl rfl) (pe_ix (cr_ixL rfl) (pe_lst (pa_cons (pe_tup (pa_cons pe_int (pa_cons pe_int pa_nil))) (pa_cons (pe_tup (pa_cons pe_int (pa_cons (pe_op op_sub (pv 1) pe_int) pa_nil))) (pa_cons (pv 8) (pa_cons (pe_tup (pa_cons (pe_op op_mod (pe_un un_neg (pe_ix (cr_ixT rfl) (pv 8) pe_int (fun _ _ => rfl))) (pv 1)) (pa_cons (pe_ix (cr_ixT rfl) (pv 8) pe_int (fun _ _ => rfl)) pa_nil))) pa_nil))))) (pe_op op_mod (pe_op op_fdiv (pe_callB call_abs (by rfl) T.n_abs (by decide +kernel) (pa_cons (pe_callS G_u_law_cell (hr.mono (by decide)) rfl T.g_u_law_cell F_u_law_cell.kp b_u_law_cell (fun σ => passAt (takes_of rfl rfl rfl rfl) σ) (pa_cons (pv 0) (pa_cons pe_int pa_nil))) pa_nil)) pe_int) pe_int) (fun _ _ => rfl)))) pss_nil) (pss_cons (ps_if (PW.pt (pw_and (pt_cmpR op_eq (pv 10) pe_int (nomark _)) (pw_and1 (pt_cmpR op_notN (pe_methQ (pv 4) T.cl_EdwardsCurve T.mt_EdwardsCurve_lift G_EdwardsCurve_lift (hr.mono (by decide)) b_EdwardsCurve_lift (fun σ => passAt (takes_of rfl rfl rfl rfl) σ) (pa_cons pe_int (pa_cons pe_bl pa_nil))) pe_non (nomark _))))) (pss_one (ps_set (i := 8) sc_law.nd rfl (Or.inl rfl) (pe_methQ (pv 4) T.cl_EdwardsCurve T.mt_EdwardsCurve_lift G_EdwardsCurve_lift (hr.mono (by decide)) b_EdwardsCurve_lift (fun σ => passAt (takes_of rfl rfl rfl rfl) σ) (pa_cons pe_int (pa_cons pe_bl pa_nil))))) pss_nil) (pss_cons (ps_for (passes_of rfl) rfl (pi_list (pe_lst (pa_cons (pv 8) (pa_cons (pv 9) (pa_cons (pe_tup (pa_cons pe_int (pa_cons pe_int pa_nil))) (pa_cons (pe_tup (pa_cons pe_int (pa_cons (pe_op op_sub (pv 1) pe_int) pa_nil))) pa_nil)))))) (pg_name (i := 11) sc_law.nd rfl (Or.inl rfl)) (pss_one (ps_if (pt_not (pt_val (pe_callS G_u_law_right_point (hr.mono (by decide)) rfl T.g_u_law_right_point F_u_law_right_point.kp b_u_law_right_point (fun σ => passAt (takes_of rfl rfl rfl rfl) σ) (pa_cons (pv 4) (pa_cons (pv 1) (pa_cons (pv 2) (pa_cons (pv 3) (pa_cons (pv 11) pa_nil)))))))) (pss_one (ps_ret pe_bl)) pss_nil))) (pss_cons (ps_set (i := 12) sc_law.nd rfl (Or.inl rfl) (pe_callS G_u_law_add (hr.mono (by decide)) rfl T.g_u_law_add F_u_law_add.kp b_u_law_add (fun σ => passAt (takes_of rfl rfl rfl rfl) σ) (pa_cons (pv 1) (pa_cons (pv 2) (pa_cons (pv 3) (pa_cons (pv 8) (pa_cons (pv 9) pa_nil))))))) (pss_cons (ps_if (pt_cmpR (op_neD (Room.units hr)) (pe_callS G_to_weierstrass (hr.mono (by decide)) rfl T.g_to_weierstrass F_to_weierstrass.kp b_to_weierstrass (fun σ => passAt (takes_of rfl rfl rfl rfl) σ) (pa_cons (pv 4) (pa_cons (pv 12) pa_nil))) (pe_methQ (pv 7) T.cl_Curve T.mt_Curve_add G_Curve_add (hr.mono (by decide)) b_Curve_add (fun σ => passAt (takes_of rfl rfl rfl rfl) σ) (pa_cons (pe_callS G_to_weierstrass (hr.mono (by decide)) rfl T.g_to_weierstrass F_to_weierstrass.kp b_to_weierstrass (fun σ => passAt (takes_of rfl rfl rfl rfl) σ) (pa_cons (pv 4) (pa_cons (pv 8) pa_nil))) (pa_cons (pe_callS G_to_weierstrass (hr.mono (by decide)) rfl T.g_to_weierstrass F_to_weierstrass.kp b_to_weierstrass (fun σ => passAt (takes_of rfl rfl rfl rfl) σ) (pa_cons (pv 4) (pa_cons (pv 9) pa_nil))) pa_nil))) (nomark _)) (pss_one (ps_ret pe_bl)) pss_nil) (pss_cons (ps_set (i := 13) sc_law.nd rfl (Or.inl rfl) (pe_callS G_u_law_residue (hr.mono (by decide)) rfl T.g_u_law_residue F_u_law_residue.kp b_u_law_residue (fun σ => passAt (takes_of rfl rfl rfl rfl) σ) (pa_cons (pe_callS G_u_law_cell (hr.mono (by decide)) rfl T.g_u_law_cell F_u_law_cell.kp b_u_law_cell (fun σ => passAt (takes_of rfl rfl rfl rfl) σ) (pa_cons (pv 0) (pa_cons pe_int pa_nil))) (pa_cons (pv 1) pa_nil)))) (pss_cons (ps_set (i := 14) sc_law.nd rfl (Or.inl rfl) (pe_callS G_u_law_residue (hr.mono (by decide)) rfl T.g_u_law_residue F_u_law_residue.kp b_u_law_residue (fun σ => passAt (takes_of rfl rfl rfl rfl) σ) (pa_cons (pe_callS G_u_law_cell (hr.mono (by decide)) rfl T.g_u_law_cell F_u_law_cell.kp b_u_law_cell (fun σ => passAt (takes_of rfl rfl rfl rfl) σ) (pa_cons (pv 0) (pa_cons pe_int pa_nil))) (pa_cons (pv 1) pa_nil)))) (pss_cons (ps_set (i := 15) sc_law.nd rfl (Or.inl rfl) (pe_cmpR op_eq (pe_op op_mod (pe_op op_sub (pe_op op_sub (pe_op op_sub (pe_op op_mulX (pe_op op_mulX (pv 6) (pv 14)) (pv 14)) (pe_op op_mulX (pe_op op_mulX (pv 13) (pv 13)) (pv 13))) (pe_op op_mulX (pe_op op_mulX (pv 5) (pv 13)) (pv 13))) (pv 13)) (pv 1)) pe_int (nomark _))) (pss_cons (ps_if (PW.pt (pw_or (pt_cmpR op_eq (pe_cmpR (op_eqD (Room.units hr)) (pe_callS G_u_law_told (hr.mono (by decide)) rfl T.g_u_law_told F_u_law_told.kp b_u_law_told (fun σ => passAt (takes_of rfl rfl rfl rfl) σ) (pa_cons pe_int (pa_cons (pv 4) (pa_cons (pe_tup (pa_cons (pv 13) (pa_cons (pv 14) pa_nil))) pa_nil)))) (pe_tup (pa_cons pe_str (pa_cons pe_str pa_nil))) (nomark _)) (pv 15) (nomark _)) (pw_or1 (pt_cmpR op_eq (pe_cmpR (op_eqD (Room.units hr)) (pe_callS G_u_law_told (hr.mono (by decide)) rfl T.g_u_law_told F_u_law_told.kp b_u_law_told (fun σ => passAt (takes_of rfl rfl rfl rfl) σ) (pa_cons pe_int (pa_cons (pv 4) (pa_cons (pe_tup (pa_cons (pv 13) (pa_cons (pv 14) pa_nil))) pa_nil)))) (pe_tup (pa_cons pe_str (pa_cons pe_str pa_nil))) (nomark _)) (pe_methQ (pv 7) T.cl_Curve T.mt_Curve_has G_Curve_has (hr.mono (by decide)) b_Curve_has (fun σ => passAt (takes_of rfl rfl rfl rfl) σ) (pa_cons (pe_tup (pa_cons (pv 13) (pa_cons (pv 14) pa_nil))) pa_nil)) (nomark _))))) (pss_one (ps_ret pe_bl)) pss_nil) (pss_one (ps_ret (pe_and (pe_cmpR (op_eqD (Room.units hr)) (pe_callS G_u_law_told (hr.mono (by decide)) rfl T.g_u_law_told F_u_law_told.kp b_u_law_told (fun σ => passAt (takes_of rfl rfl rfl rfl) σ) (pa_cons pe_int (pa_cons (pv 4) (pa_cons (pe_tup (pa_cons (pv 13) (pa_cons (pe_op op_add (pv 14) (pv 1)) pa_nil))) pa_nil)))) (pe_tup (pa_cons pe_str (pa_cons pe_str pa_nil))) (nomark _)) (pe_and (pe_cmpR (op_eqD (Room.units hr)) (pe_callS G_u_law_told (hr.mono (by decide)) rfl T.g_u_law_told F_u_law_told.kp b_u_law_told (fun σ => passAt (takes_of rfl rfl rfl rfl) σ) (pa_cons pe_int (pa_cons (pv 4) (pa_cons (pe_tup (pa_cons (pe_op op_sub (pv 13) (pv 1)) (pa_cons (pv 14) pa_nil))) pa_nil)))) (pe_tup (pa_cons pe_str (pa_cons pe_str pa_nil))) (nomark _)) (pe_one (pe_cmpR (op_eqD (Room.units hr)) (pe_callS G_u_law_told (hr.mono (by decide)) rfl T.g_u_law_told F_u_law_told.kp b_u_law_told (fun σ => passAt (takes_of rfl rfl rfl rfl) σ) (pa_cons pe_int (pa_cons (pv 4) (pa_cons (pe_lst (pa_cons (pv 13) pa_nil)) pa_nil)))) (pe_tup (pa_cons pe_str (pa_cons pe_str pa_nil))) (nomark _)))))))))))))))))))))))))), ?_⟩
  rintro ⟨script_, ⟨⟩⟩ F0 H0 Q KP L
  show Blk K F0 H0 KP _ [some (.im (toD script_)), none, none, none, none, none, none, none, none, none, none, none, none, none, none, none] (m_law script_)
  unfold m_law
  have hs_ := ((ev_call (f := (fun (p : Int × Unit) => m_u_law_edwards_prime p.1)) (ea_cons (ev_call (f := (fun (p : (Ro Int) × Int × Unit) => m_u_law_cell p.1 p.2.1)) (ea_cons (ev_var (i := 0) (x := script_) rfl) (ea_cons (ev_int (i := 0)) ea_nil))) ea_nil)) : EvX K (W0 E) [some (.im (toD script_)), none, none, none, none, none, none, none, none, none, none, none, none, none, none, none] _ _)
  refine blk_seq (blk_set (i := 1) L trivial hs_ fun prime_ => ?_)
  show Blk _ _ _ _ _ [some (.im (toD script_)), some (.im (toD prime_)), none, none, none, none, none, none, none, none, none, none, none, none, none, none] _
  try refine Blk.nx ?_
  have hs_ := ((ev_call (f := (fun (p : (Ro Int) × Int × Int × Unit) => m_u_law_numbers p.1 p.2.1 p.2.2.1)) (ea_cons (ev_var (i := 0) (x := script_) rfl) (ea_cons (ev_int (i := 1)) (ea_cons (ev_var (i := 1) (x := prime_) rfl) ea_nil)))) : EvX K (W0 E) [some (.im (toD script_)), some (.im (toD prime_)), none, none, none, none, none, none, none, none, none, none, none, none, none, none] _ _)
  refine blk_seq (blk_asg L trivial hs_ (fun _ => (gx_tup (gxs_cons gx_name (gxs_cons gx_name gxs_nil)) rfl)) fun u1729 => ?_)
  show Blk _ _ _ _ _ [some (.im (toD script_)), some (.im (toD prime_)), some (.im (toD u1729.a)), some (.im (toD u1729.b)), none, none, none, none, none, none, none, none, none, none, none, none] ((fun (a_ : Int) (d_ : Int) => _) u1729.a u1729.b)
  generalize u1729.a = a_
  generalize u1729.b = d_
  show Blk _ _ _ _ _ [some (.im (toD script_)), some (.im (toD prime_)), some (.im (toD a_)), some (.im (toD d_)), none, none, none, none, none, none, none, none, none, none, none, none] _
  try refine Blk.nx ?_
  have hs_ := ((ev_make (c := "EdwardsCurve") (f := (fun (p : Int × Int × Int × Unit) => m_EdwardsCurve_init p.1 p.2.1 p.2.2.1)) (ea_cons (ev_var (i := 1) (x := prime_) rfl) (ea_cons (ev_var (i := 2) (x := a_) rfl) (ea_cons (ev_var (i := 3) (x := d_) rfl) ea_nil)))) : EvX K (W0 E) [some (.im (toD script_)), some (.im (toD prime_)), some (.im (toD a_)), some (.im (toD d_)), none, none, none, none, none, none, none, none, none, none, none, none] _ _)
  refine blk_seq (blk_set (i := 4) L trivial hs_ fun curve_ => ?_)
  show Blk _ _ _ _ _ [some (.im (toD script_)), some (.im (toD prime_)), some (.im (toD a_)), some (.im (toD d_)), some (.im (toD curve_)), none, none, none, none, none, none, none, none, none, none, none] _
  try refine Blk.nx ?_
  have ht_ := ((et_test (ev_op opx_neD mild_need (ev_call (f := (fun (p : O_EdwardsCurve × Unit) => m_montgomery_numbers p.1)) (ea_cons (ev_var (i := 4) (x := curve_) rfl) ea_nil)) (ev_call (f := (fun (p : Int × Int × Int × Unit) => m_u_law_numbers_due p.1 p.2.1 p.2.2.1)) (ea_cons (ev_var (i := 1) (x := prime_) rfl) (ea_cons (ev_var (i := 2) (x := a_) rfl) (ea_cons (ev_var (i := 3) (x := d_) rfl) ea_nil)))))) : EvT K (W0 E) [some (.im (toD script_)), some (.im (toD prime_)), some (.im (toD a_)), some (.im (toD d_)), some (.im (toD curve_)), none, none, none, none, none, none, none, none, none, none, none] _ _)
  refine blk_seq (blk_if2 L trivial ht_ ?_ ?_)
  · have hr_ := ((ev_bl (b := false)) : EvX K (W0 E) [some (.im (toD script_)), some (.im (toD prime_)), some (.im (toD a_)), some (.im (toD d_)), some (.im (toD curve_)), none, none, none, none, none, none, none, none, none, none, none] _ _)
    exact blk_ret L trivial hr_
  · refine blk_nil ?_
    try refine Blk.nx ?_
    have hs_ := ((ev_call (f := (fun (p : Int × Int × Int × Unit) => m_u_law_numbers_due p.1 p.2.1 p.2.2.1)) (ea_cons (ev_var (i := 1) (x := prime_) rfl) (ea_cons (ev_var (i := 2) (x := a_) rfl) (ea_cons (ev_var (i := 3) (x := d_) rfl) ea_nil)))) : EvX K (W0 E) [some (.im (toD script_)), some (.im (toD prime_)), some (.im (toD a_)), some (.im (toD d_)), some (.im (toD curve_)), none, none, none, none, none, none, none, none, none, none, none] _ _)
    refine blk_seq (blk_asg L trivial hs_ (fun _ => (gx_tup (gxs_cons gx_name (gxs_cons gx_name gxs_nil)) rfl)) fun u1756 => ?_)
    show Blk _ _ _ _ _ [some (.im (toD script_)), some (.im (toD prime_)), some (.im (toD a_)), some (.im (toD d_)), some (.im (toD curve_)), some (.im (toD u1756.a)), some (.im (toD u1756.b)), none, none, none, none, none, none, none, none, none] ((fun (big_ : Int) (small_ : Int) => _) u1756.a u1756.b)
    generalize u1756.a = big_
    generalize u1756.b = small_
    show Blk _ _ _ _ _ [some (.im (toD script_)), some (.im (toD prime_)), some (.im (toD a_)), some (.im (toD d_)), some (.im (toD curve_)), some (.im (toD big_)), some (.im (toD small_)), none, none, none, none, none, none, none, none, none] _
    try refine Blk.nx ?_
    have hs_ := ((ev_call (f := (fun (p : O_EdwardsCurve × Unit) => m_weierstrass_of p.1)) (ea_cons (ev_var (i := 4) (x := curve_) rfl) ea_nil)) : EvX K (W0 E) [some (.im (toD script_)), some (.im (toD prime_)), some (.im (toD a_)), some (.im (toD d_)), some (.im (toD curve_)), some (.im (toD big_)), some (.im (toD small_)), none, none, none, none, none, none, none, none, none] _ _)
    refine blk_seq (blk_set (i := 7) L trivial hs_ fun other_ => ?_)
    show Blk _ _ _ _ _ [some (.im (toD script_)), some (.im (toD prime_)), some (.im (toD a_)), some (.im (toD d_)), some (.im (toD curve_)), some (.im (toD big_)), some (.im (toD small_)), some (.im (toD other_)), none, none, none, none, none, none, none, none] _
    try refine Blk.nx ?_
    have ht_ := ((et_test (ev_op opx_neD mild_need (ev_tup (f := (fun y => T3.mk y.1 y.2.1 y.2.2.1)) (ea_cons (ev_fld (g := fun (x : O_Curve) => x.f_prime) (c := "Curve") (ks := ["prime", "a", "b"]) (j := 0) (ev_var (i := 7) (x := other_) rfl) T.cl_Curve T.nf_Curve_prime (by decide +kernel) (fun _ => ⟨_, rfl, rfl⟩)) (ea_cons (ev_fld (g := fun (x : O_Curve) => x.f_a) (c := "Curve") (ks := ["prime", "a", "b"]) (j := 1) (ev_var (i := 7) (x := other_) rfl) T.cl_Curve T.nf_Curve_a (by decide +kernel) (fun _ => ⟨_, rfl, rfl⟩)) (ea_cons (ev_fld (g := fun (x : O_Curve) => x.f_b) (c := "Curve") (ks := ["prime", "a", "b"]) (j := 2) (ev_var (i := 7) (x := other_) rfl) T.cl_Curve T.nf_Curve_b (by decide +kernel) (fun _ => ⟨_, rfl, rfl⟩)) ea_nil))) (fun _ => rfl) (fun _ => by show 3 ≤ 100000; decide)) (ev_tup (f := (fun y => T3.mk y.1 y.2.1 y.2.2.1)) (ea_cons (ev_var (i := 1) (x := prime_) rfl) (ea_cons (ev_ixTC (i := 0) (f := fun x => x.a) (ev_call (f := (fun (p : Int × Int × Int × Unit) => m_u_law_shape p.1 p.2.1 p.2.2.1)) (ea_cons (ev_var (i := 1) (x := prime_) rfl) (ea_cons (ev_var (i := 5) (x := big_) rfl) (ea_cons (ev_var (i := 6) (x := small_) rfl) ea_nil)))) (fun x => ⟨_, rfl, rfl⟩)) (ea_cons (ev_ixTC (i := 1) (f := fun x => x.b) (ev_call (f := (fun (p : Int × Int × Int × Unit) => m_u_law_shape p.1 p.2.1 p.2.2.1)) (ea_cons (ev_var (i := 1) (x := prime_) rfl) (ea_cons (ev_var (i := 5) (x := big_) rfl) (ea_cons (ev_var (i := 6) (x := small_) rfl) ea_nil)))) (fun x => ⟨_, rfl, rfl⟩)) ea_nil))) (fun _ => rfl) (fun _ => by show 3 ≤ 100000; decide)))) : EvT K (W0 E) [some (.im (toD script_)), some (.im (toD prime_)), some (.im (toD a_)), some (.im (toD d_)), some (.im (toD curve_)), some (.im (toD big_)), some (.im (toD small_)), some (.im (toD other_)), none, none, none, none, none, none, none, none] _ _)
    refine blk_seq (blk_if2 L trivial ht_ ?_ ?_)
    · have hr_ := ((ev_bl (b := false)) : EvX K (W0 E) [some (.im (toD script_)), some (.im (toD prime_)), some (.im (toD a_)), some (.im (toD d_)), some (.im (toD curve_)), some (.im (toD big_)), some (.im (toD small_)), some (.im (toD other_)), none, none, none, none, none, none, none, none] _ _)
      exact blk_ret L trivial hr_
    · refine blk_nil ?_
      try refine Blk.nx ?_
      have hs_ := ((ev_call (f := (fun (p : O_EdwardsCurve × Int × Int × Int × Int × Unit) => m_u_law_lifted p.1 p.2.1 p.2.2.1 p.2.2.2.1 p.2.2.2.2.1)) (ea_cons (ev_var (i := 4) (x := curve_) rfl) (ea_cons (ev_var (i := 1) (x := prime_) rfl) (ea_cons (ev_var (i := 2) (x := a_) rfl) (ea_cons (ev_var (i := 3) (x := d_) rfl) (ea_cons (ev_call (f := (fun (p : (Ro Int) × Int × Unit) => m_u_law_cell p.1 p.2.1)) (ea_cons (ev_var (i := 0) (x := script_) rfl) (ea_cons (ev_int (i := 3)) ea_nil))) ea_nil)))))) : EvX K (W0 E) [some (.im (toD script_)), some (.im (toD prime_)), some (.im (toD a_)), some (.im (toD d_)), some (.im (toD curve_)), some (.im (toD big_)), some (.im (toD small_)), some (.im (toD other_)), none, none, none, none, none, none, none, none] _ _)
      refine blk_seq (blk_set (i := 8) L trivial hs_ fun first_ => ?_)
      show Blk _ _ _ _ _ [some (.im (toD script_)), some (.im (toD prime_)), some (.im (toD a_)), some (.im (toD d_)), some (.im (toD curve_)), some (.im (toD big_)), some (.im (toD small_)), some (.im (toD other_)), some (.im (toD first_)), none, none, none, none, none, none, none] _
      try refine Blk.nx ?_
      have hs_ := ((ev_call (f := (fun (p : O_EdwardsCurve × Int × Int × Int × Int × Unit) => m_u_law_lifted p.1 p.2.1 p.2.2.1 p.2.2.2.1 p.2.2.2.2.1)) (ea_cons (ev_var (i := 4) (x := curve_) rfl) (ea_cons (ev_var (i := 1) (x := prime_) rfl) (ea_cons (ev_var (i := 2) (x := a_) rfl) (ea_cons (ev_var (i := 3) (x := d_) rfl) (ea_cons (ev_call (f := (fun (p : (Ro Int) × Int × Unit) => m_u_law_cell p.1 p.2.1)) (ea_cons (ev_var (i := 0) (x := script_) rfl) (ea_cons (ev_int (i := 4)) ea_nil))) ea_nil)))))) : EvX K (W0 E) [some (.im (toD script_)), some (.im (toD prime_)), some (.im (toD a_)), some (.im (toD d_)), some (.im (toD curve_)), some (.im (toD big_)), some (.im (toD small_)), some (.im (toD other_)), some (.im (toD first_)), none, none, none, none, none, none, none] _ _)
      refine blk_seq (blk_set (i := 9) L trivial hs_ fun second_ => ?_)
      show Blk _ _ _ _ _ [some (.im (toD script_)), some (.im (toD prime_)), some (.im (toD a_)), some (.im (toD d_)), some (.im (toD curve_)), some (.im (toD big_)), some (.im (toD small_)), some (.im (toD other_)), some (.im (toD first_)), some (.im (toD second_)), none, none, none, none, none, none] _
      try refine Blk.nx ?_
      have hs_ := ((ev_opI (C := (fun _ j => 0 < j)) (g := fun i j => i % j) (fun x y _ h => by cases h; (show (0 : Int) < _; decide)) (ev_cb cx_abs (fun _ _ h => nomatch h) (ea_cons (ev_call (f := (fun (p : (Ro Int) × Int × Unit) => m_u_law_cell p.1 p.2.1)) (ea_cons (ev_var (i := 0) (x := script_) rfl) (ea_cons (ev_int (i := 5)) ea_nil))) ea_nil)) (ev_int (i := 6))) : EvX K (W0 E) [some (.im (toD script_)), some (.im (toD prime_)), some (.im (toD a_)), some (.im (toD d_)), some (.im (toD curve_)), some (.im (toD big_)), some (.im (toD small_)), some (.im (toD other_)), some (.im (toD first_)), some (.im (toD second_)), none, none, none, none, none, none] _ _)
      refine blk_seq (blk_set (i := 10) L trivial hs_ fun kind_ => ?_)
      show Blk _ _ _ _ _ [some (.im (toD script_)), some (.im (toD prime_)), some (.im (toD a_)), some (.im (toD d_)), some (.im (toD curve_)), some (.im (toD big_)), some (.im (toD small_)), some (.im (toD other_)), some (.im (toD first_)), some (.im (toD second_)), some (.im (toD kind_)), none, none, none, none, none] _
      try refine Blk.nx ?_
      have ht_ := ((et_test (ev_op opx_eqI mild_ok (ev_var (i := 10) (x := kind_) rfl) (ev_int (i := 1)))) : EvT K (W0 E) [some (.im (toD script_)), some (.im (toD prime_)), some (.im (toD a_)), some (.im (toD d_)), some (.im (toD curve_)), some (.im (toD big_)), some (.im (toD small_)), some (.im (toD other_)), some (.im (toD first_)), some (.im (toD second_)), some (.im (toD kind_)), none, none, none, none, none] _ _)
      refine blk_seq (blk_ifj (S := (T2 Int Int)) (fun second_ => [some (.im (toD script_)), some (.im (toD prime_)), some (.im (toD a_)), some (.im (toD d_)), some (.im (toD curve_)), some (.im (toD big_)), some (.im (toD small_)), some (.im (toD other_)), some (.im (toD first_)), some (.im (toD second_)), some (.im (toD kind_)), none, none, none, none, none]) (m_law_k3 script_ prime_ a_ d_ curve_ big_ small_ other_ first_ kind_) L trivial ht_ ?_ ?_ ?_)
      · intro second_
        show Blk _ _ _ _ _ [some (.im (toD script_)), some (.im (toD prime_)), some (.im (toD a_)), some (.im (toD d_)), some (.im (toD curve_)), some (.im (toD big_)), some (.im (toD small_)), some (.im (toD other_)), some (.im (toD first_)), some (.im (toD second_)), some (.im (toD kind_)), none, none, none, none, none] ((m_law_k3 script_ prime_ a_ d_ curve_ big_ small_ other_ first_ kind_) second_)
        unfold m_law_k3
        try refine Blk.nx ?_
        have ht_ := ((et_and (et_test (ev_op opx_eqI mild_ok (ev_var (i := 10) (x := kind_) rfl) (ev_int (i := 2)))) (et_test (ev_op opx_notN mild_ok (ev_meth (c := "EdwardsCurve") (m := "lift") (ks := ["prime", "a", "d"]) (f := (fun (p : O_EdwardsCurve × Int × Bool × Unit) => m_EdwardsCurve_lift p.1 p.2.1 p.2.2.1)) (ev_var (i := 4) (x := curve_) rfl) (ea_cons (ev_int (i := 0)) (ea_cons (ev_bl (b := true)) ea_nil)) (by decide +kernel) (fun _ => ⟨_, rfl⟩)) ev_non))) : EvT K (W0 E) [some (.im (toD script_)), some (.im (toD prime_)), some (.im (toD a_)), some (.im (toD d_)), some (.im (toD curve_)), some (.im (toD big_)), some (.im (toD small_)), some (.im (toD other_)), some (.im (toD first_)), some (.im (toD second_)), some (.im (toD kind_)), none, none, none, none, none] _ _)
        refine blk_seq (blk_ifj (S := (T2 Int Int)) (fun first_ => [some (.im (toD script_)), some (.im (toD prime_)), some (.im (toD a_)), some (.im (toD d_)), some (.im (toD curve_)), some (.im (toD big_)), some (.im (toD small_)), some (.im (toD other_)), some (.im (toD first_)), some (.im (toD second_)), some (.im (toD kind_)), none, none, none, none, none]) (m_law_k4 script_ prime_ a_ d_ curve_ big_ small_ other_ second_) L trivial ht_ ?_ ?_ ?_)
        · intro first_
          show Blk _ _ _ _ _ [some (.im (toD script_)), some (.im (toD prime_)), some (.im (toD a_)), some (.im (toD d_)), some (.im (toD curve_)), some (.im (toD big_)), some (.im (toD small_)), some (.im (toD other_)), some (.im (toD first_)), some (.im (toD second_)), some (.im (toD kind_)), none, none, none, none, none] ((m_law_k4 script_ prime_ a_ d_ curve_ big_ small_ other_ second_) first_)
          unfold m_law_k4
          try refine Blk.nx ?_
          have hi_ := ((ei_list (ev_ofN (en_lst (f := (fun y => ([y.1, y.2.1, y.2.2.1, y.2.2.2.1] : List (T2 Int Int)))) (ea_cons (ev_var (i := 8) (x := first_) rfl) (ea_cons (ev_var (i := 9) (x := second_) rfl) (ea_cons (ev_tup (f := (fun y => T2.mk y.1 y.2.1)) (ea_cons (ev_int (i := 0)) (ea_cons (ev_int (i := 1)) ea_nil)) (fun _ => rfl) (fun _ => by show 2 ≤ 100000; decide)) (ea_cons (ev_tup (f := (fun y => T2.mk y.1 y.2.1)) (ea_cons (ev_int (i := 0)) (ea_cons (ev_op (opx_I0 (g := fun i j => i - j)) mild_ok (ev_var (i := 1) (x := prime_) rfl) (ev_int (i := 1))) ea_nil)) (fun _ => rfl) (fun _ => by show 2 ≤ 100000; decide)) ea_nil)))) (fun _ => rfl) (fun _ => by show 4 ≤ 100000; decide)))) : EvI K (W0 E) [some (.im (toD script_)), some (.im (toD prime_)), some (.im (toD a_)), some (.im (toD d_)), some (.im (toD curve_)), some (.im (toD big_)), some (.im (toD small_)), some (.im (toD other_)), some (.im (toD first_)), some (.im (toD second_)), some (.im (toD kind_)), none, none, none, none, none] _ _)
          refine blk_seq (blk_for (S := Unit) (m_law_l5 prime_ a_ d_ curve_ (m_law_k8 script_ prime_ a_ d_ curve_ big_ small_ other_ first_ second_)) (m_law_k8 script_ prime_ a_ d_ curve_ big_ small_ other_ first_ second_) (fun _ => [some (.im (toD script_)), some (.im (toD prime_)), some (.im (toD a_)), some (.im (toD d_)), some (.im (toD curve_)), some (.im (toD big_)), some (.im (toD small_)), some (.im (toD other_)), some (.im (toD first_)), some (.im (toD second_)), some (.im (toD kind_)), none, none, none, none, none]) () L trivial hi_ (fun _ => gx_name) (.same (.same (.same (.same (.same (.same (.same (.same (.same (.same (.same (.same (.same (.same (.same (.same .nil)))))))))))))))) (fun _ => rfl) ?_ ?_)
          · intro F5 L5 hB5 x1871 r5 s_ N_ hN5
            obtain ⟨⟩ := s_
            show Blk _ _ _ _ _ [some (.im (toD script_)), some (.im (toD prime_)), some (.im (toD a_)), some (.im (toD d_)), some (.im (toD curve_)), some (.im (toD big_)), some (.im (toD small_)), some (.im (toD other_)), some (.im (toD first_)), some (.im (toD second_)), some (.im (toD kind_)), some (.im (toD x1871)), none, none, none, none] (m_law_l5 prime_ a_ d_ curve_ (m_law_k8 script_ prime_ a_ d_ curve_ big_ small_ other_ first_ second_) (x1871 :: r5) ())
            rw [m_law_l5]
            show Blk _ _ _ _ _ _ ((fun (point_ : (T2 Int Int)) => _) x1871)
            generalize x1871 = point_
            show Blk _ _ _ _ _ [some (.im (toD script_)), some (.im (toD prime_)), some (.im (toD a_)), some (.im (toD d_)), some (.im (toD curve_)), some (.im (toD big_)), some (.im (toD small_)), some (.im (toD other_)), some (.im (toD first_)), some (.im (toD second_)), some (.im (toD kind_)), some (.im (toD point_)), none, none, none, none] _
            have ht_ := ((et_not (et_B (ev_call (f := (fun (p : O_EdwardsCurve × Int × Int × Int × (T2 Int Int) × Unit) => m_u_law_right_point p.1 p.2.1 p.2.2.1 p.2.2.2.1 p.2.2.2.2.1)) (ea_cons (ev_var (i := 4) (x := curve_) rfl) (ea_cons (ev_var (i := 1) (x := prime_) rfl) (ea_cons (ev_var (i := 2) (x := a_) rfl) (ea_cons (ev_var (i := 3) (x := d_) rfl) (ea_cons (ev_var (i := 11) (x := point_) rfl) ea_nil)))))))) : EvT K (W0 E) [some (.im (toD script_)), some (.im (toD prime_)), some (.im (toD a_)), some (.im (toD d_)), some (.im (toD curve_)), some (.im (toD big_)), some (.im (toD small_)), some (.im (toD other_)), some (.im (toD first_)), some (.im (toD second_)), some (.im (toD kind_)), some (.im (toD point_)), none, none, none, none] _ _)
            refine blk_if2 L5 trivial ht_ ?_ ?_
            · have hr_ := ((ev_bl (b := false)) : EvX K (W0 E) [some (.im (toD script_)), some (.im (toD prime_)), some (.im (toD a_)), some (.im (toD d_)), some (.im (toD curve_)), some (.im (toD big_)), some (.im (toD small_)), some (.im (toD other_)), some (.im (toD first_)), some (.im (toD second_)), some (.im (toD kind_)), some (.im (toD point_)), none, none, none, none] _ _)
              exact blk_ret L5 trivial hr_
            · refine blk_nil ?_
              try refine Blk.nx ?_
              exact (hN5 ()).weak (.same (.same (.same (.same (.same (.same (.same (.same (.same (.same (.same (.drop (.same (.same (.same (.same .nil))))))))))))))))
          · intro _
            show Blk _ _ _ _ _ [some (.im (toD script_)), some (.im (toD prime_)), some (.im (toD a_)), some (.im (toD d_)), some (.im (toD curve_)), some (.im (toD big_)), some (.im (toD small_)), some (.im (toD other_)), some (.im (toD first_)), some (.im (toD second_)), some (.im (toD kind_)), none, none, none, none, none] ((m_law_k8 script_ prime_ a_ d_ curve_ big_ small_ other_ first_ second_) ())
            unfold m_law_k8
            try refine Blk.nx ?_
            have hs_ := ((ev_call (f := (fun (p : Int × Int × Int × (T2 Int Int) × (T2 Int Int) × Unit) => m_u_law_add p.1 p.2.1 p.2.2.1 p.2.2.2.1 p.2.2.2.2.1)) (ea_cons (ev_var (i := 1) (x := prime_) rfl) (ea_cons (ev_var (i := 2) (x := a_) rfl) (ea_cons (ev_var (i := 3) (x := d_) rfl) (ea_cons (ev_var (i := 8) (x := first_) rfl) (ea_cons (ev_var (i := 9) (x := second_) rfl) ea_nil)))))) : EvX K (W0 E) [some (.im (toD script_)), some (.im (toD prime_)), some (.im (toD a_)), some (.im (toD d_)), some (.im (toD curve_)), some (.im (toD big_)), some (.im (toD small_)), some (.im (toD other_)), some (.im (toD first_)), some (.im (toD second_)), some (.im (toD kind_)), none, none, none, none, none] _ _)
            refine blk_seq (blk_set (i := 12) L trivial hs_ fun total_ => ?_)
            show Blk _ _ _ _ _ [some (.im (toD script_)), some (.im (toD prime_)), some (.im (toD a_)), some (.im (toD d_)), some (.im (toD curve_)), some (.im (toD big_)), some (.im (toD small_)), some (.im (toD other_)), some (.im (toD first_)), some (.im (toD second_)), some (.im (toD kind_)), none, some (.im (toD total_)), none, none, none] _
            try refine Blk.nx ?_
            have ht_ := ((et_test (ev_op opx_neD mild_need (ev_call (f := (fun (p : O_EdwardsCurve × (T2 Int Int) × Unit) => m_to_weierstrass p.1 p.2.1)) (ea_cons (ev_var (i := 4) (x := curve_) rfl) (ea_cons (ev_var (i := 12) (x := total_) rfl) ea_nil))) (ev_meth (c := "Curve") (m := "add") (ks := ["prime", "a", "b"]) (f := (fun (p : O_Curve × (Option (T2 Int Int)) × (Option (T2 Int Int)) × Unit) => m_Curve_add p.1 p.2.1 p.2.2.1)) (ev_var (i := 7) (x := other_) rfl) (ea_cons (ev_call (f := (fun (p : O_EdwardsCurve × (T2 Int Int) × Unit) => m_to_weierstrass p.1 p.2.1)) (ea_cons (ev_var (i := 4) (x := curve_) rfl) (ea_cons (ev_var (i := 8) (x := first_) rfl) ea_nil))) (ea_cons (ev_call (f := (fun (p : O_EdwardsCurve × (T2 Int Int) × Unit) => m_to_weierstrass p.1 p.2.1)) (ea_cons (ev_var (i := 4) (x := curve_) rfl) (ea_cons (ev_var (i := 9) (x := second_) rfl) ea_nil))) ea_nil)) (by decide +kernel) (fun _ => ⟨_, rfl⟩)))) : EvT K (W0 E) [some (.im (toD script_)), some (.im (toD prime_)), some (.im (toD a_)), some (.im (toD d_)), some (.im (toD curve_)), some (.im (toD big_)), some (.im (toD small_)), some (.im (toD other_)), some (.im (toD first_)), some (.im (toD second_)), some (.im (toD kind_)), none, some (.im (toD total_)), none, none, none] _ _)
            refine blk_seq (blk_if2 L trivial ht_ ?_ ?_)
            · have hr_ := ((ev_bl (b := false)) : EvX K (W0 E) [some (.im (toD script_)), some (.im (toD prime_)), some (.im (toD a_)), some (.im (toD d_)), some (.im (toD curve_)), some (.im (toD big_)), some (.im (toD small_)), some (.im (toD other_)), some (.im (toD first_)), some (.im (toD second_)), some (.im (toD kind_)), none, some (.im (toD total_)), none, none, none] _ _)
              exact blk_ret L trivial hr_
            · refine blk_nil ?_
              try refine Blk.nx ?_
              have hs_ := ((ev_call (f := (fun (p : Int × Int × Unit) => m_u_law_residue p.1 p.2.1)) (ea_cons (ev_call (f := (fun (p : (Ro Int) × Int × Unit) => m_u_law_cell p.1 p.2.1)) (ea_cons (ev_var (i := 0) (x := script_) rfl) (ea_cons (ev_int (i := 6)) ea_nil))) (ea_cons (ev_var (i := 1) (x := prime_) rfl) ea_nil))) : EvX K (W0 E) [some (.im (toD script_)), some (.im (toD prime_)), some (.im (toD a_)), some (.im (toD d_)), some (.im (toD curve_)), some (.im (toD big_)), some (.im (toD small_)), some (.im (toD other_)), some (.im (toD first_)), some (.im (toD second_)), some (.im (toD kind_)), none, some (.im (toD total_)), none, none, none] _ _)
              refine blk_seq (blk_set (i := 13) L trivial hs_ fun u_ => ?_)
              show Blk _ _ _ _ _ [some (.im (toD script_)), some (.im (toD prime_)), some (.im (toD a_)), some (.im (toD d_)), some (.im (toD curve_)), some (.im (toD big_)), some (.im (toD small_)), some (.im (toD other_)), some (.im (toD first_)), some (.im (toD second_)), some (.im (toD kind_)), none, some (.im (toD total_)), some (.im (toD u_)), none, none] _
              try refine Blk.nx ?_
              have hs_ := ((ev_call (f := (fun (p : Int × Int × Unit) => m_u_law_residue p.1 p.2.1)) (ea_cons (ev_call (f := (fun (p : (Ro Int) × Int × Unit) => m_u_law_cell p.1 p.2.1)) (ea_cons (ev_var (i := 0) (x := script_) rfl) (ea_cons (ev_int (i := 7)) ea_nil))) (ea_cons (ev_var (i := 1) (x := prime_) rfl) ea_nil))) : EvX K (W0 E) [some (.im (toD script_)), some (.im (toD prime_)), some (.im (toD a_)), some (.im (toD d_)), some (.im (toD curve_)), some (.im (toD big_)), some (.im (toD small_)), some (.im (toD other_)), some (.im (toD first_)), some (.im (toD second_)), some (.im (toD kind_)), none, some (.im (toD total_)), some (.im (toD u_)), none, none] _ _)
              refine blk_seq (blk_set (i := 14) L trivial hs_ fun v_ => ?_)
              show Blk _ _ _ _ _ [some (.im (toD script_)), some (.im (toD prime_)), some (.im (toD a_)), some (.im (toD d_)), some (.im (toD curve_)), some (.im (toD big_)), some (.im (toD small_)), some (.im (toD other_)), some (.im (toD first_)), some (.im (toD second_)), some (.im (toD kind_)), none, some (.im (toD total_)), some (.im (toD u_)), some (.im (toD v_)), none] _
              try refine Blk.nx ?_
              have hs_ := ((ev_op opx_eqI mild_ok (ev_op (opx_I (C := (fun _ j => 0 < j)) (g := fun i j => i % j)) mild_need (ev_op (opx_I0 (g := fun i j => i - j)) mild_ok (ev_op (opx_I0 (g := fun i j => i - j)) mild_ok (ev_op (opx_I0 (g := fun i j => i - j)) mild_ok (ev_op (opx_I (C := CMulX) (g := fun i j => i * j)) mild_need (ev_op (opx_I (C := CMulX) (g := fun i j => i * j)) mild_need (ev_var (i := 6) (x := small_) rfl) (ev_var (i := 14) (x := v_) rfl)) (ev_var (i := 14) (x := v_) rfl)) (ev_op (opx_I (C := CMulX) (g := fun i j => i * j)) mild_need (ev_op (opx_I (C := CMulX) (g := fun i j => i * j)) mild_need (ev_var (i := 13) (x := u_) rfl) (ev_var (i := 13) (x := u_) rfl)) (ev_var (i := 13) (x := u_) rfl))) (ev_op (opx_I (C := CMulX) (g := fun i j => i * j)) mild_need (ev_op (opx_I (C := CMulX) (g := fun i j => i * j)) mild_need (ev_var (i := 5) (x := big_) rfl) (ev_var (i := 13) (x := u_) rfl)) (ev_var (i := 13) (x := u_) rfl))) (ev_var (i := 13) (x := u_) rfl)) (ev_var (i := 1) (x := prime_) rfl)) (ev_int (i := 0))) : EvX K (W0 E) [some (.im (toD script_)), some (.im (toD prime_)), some (.im (toD a_)), some (.im (toD d_)), some (.im (toD curve_)), some (.im (toD big_)), some (.im (toD small_)), some (.im (toD other_)), some (.im (toD first_)), some (.im (toD second_)), some (.im (toD kind_)), none, some (.im (toD total_)), some (.im (toD u_)), some (.im (toD v_)), none] _ _)
              refine blk_seq (blk_set (i := 15) L trivial hs_ fun on_ => ?_)
              show Blk _ _ _ _ _ [some (.im (toD script_)), some (.im (toD prime_)), some (.im (toD a_)), some (.im (toD d_)), some (.im (toD curve_)), some (.im (toD big_)), some (.im (toD small_)), some (.im (toD other_)), some (.im (toD first_)), some (.im (toD second_)), some (.im (toD kind_)), none, some (.im (toD total_)), some (.im (toD u_)), some (.im (toD v_)), some (.im (toD on_))] _
              try refine Blk.nx ?_
              have ht_ := ((et_or (et_test (ev_op opx_eqB mild_ok (ev_op opx_eqD mild_need (ev_call (f := (fun (p : Int × O_EdwardsCurve × D × Unit) => m_u_law_told p.1 p.2.1 p.2.2.1)) (ea_cons (ev_int (i := 0)) (ea_cons (ev_var (i := 4) (x := curve_) rfl) (ea_cons (ev_as (ev_tup (f := (fun y => T2.mk y.1 y.2.1)) (ea_cons (ev_var (i := 13) (x := u_) rfl) (ea_cons (ev_var (i := 14) (x := v_) rfl) ea_nil)) (fun _ => rfl) (fun _ => by show 2 ≤ 100000; decide)) toD (fun _ => rfl) rfl) ea_nil)))) (ev_tup (f := (fun y => T2.mk y.1 y.2.1)) (ea_cons (ev_str (x := "refused")) (ea_cons (ev_str (x := "point")) ea_nil)) (fun _ => rfl) (fun _ => by show 2 ≤ 100000; decide))) (ev_var (i := 15) (x := on_) rfl))) (et_test (ev_op opx_eqB mild_ok (ev_op opx_eqD mild_need (ev_call (f := (fun (p : Int × O_EdwardsCurve × D × Unit) => m_u_law_told p.1 p.2.1 p.2.2.1)) (ea_cons (ev_int (i := 1)) (ea_cons (ev_var (i := 4) (x := curve_) rfl) (ea_cons (ev_as (ev_tup (f := (fun y => T2.mk y.1 y.2.1)) (ea_cons (ev_var (i := 13) (x := u_) rfl) (ea_cons (ev_var (i := 14) (x := v_) rfl) ea_nil)) (fun _ => rfl) (fun _ => by show 2 ≤ 100000; decide)) toD (fun _ => rfl) rfl) ea_nil)))) (ev_tup (f := (fun y => T2.mk y.1 y.2.1)) (ea_cons (ev_str (x := "refused")) (ea_cons (ev_str (x := "point")) ea_nil)) (fun _ => rfl) (fun _ => by show 2 ≤ 100000; decide))) (ev_meth (c := "Curve") (m := "has") (ks := ["prime", "a", "b"]) (f := (fun (p : O_Curve × D × Unit) => m_Curve_has p.1 p.2.1)) (ev_var (i := 7) (x := other_) rfl) (ea_cons (ev_as (ev_tup (f := (fun y => T2.mk y.1 y.2.1)) (ea_cons (ev_var (i := 13) (x := u_) rfl) (ea_cons (ev_var (i := 14) (x := v_) rfl) ea_nil)) (fun _ => rfl) (fun _ => by show 2 ≤ 100000; decide)) toD (fun _ => rfl) rfl) ea_nil) (by decide +kernel) (fun _ => ⟨_, rfl⟩))))) : EvT K (W0 E) [some (.im (toD script_)), some (.im (toD prime_)), some (.im (toD a_)), some (.im (toD d_)), some (.im (toD curve_)), some (.im (toD big_)), some (.im (toD small_)), some (.im (toD other_)), some (.im (toD first_)), some (.im (toD second_)), some (.im (toD kind_)), none, some (.im (toD total_)), some (.im (toD u_)), some (.im (toD v_)), some (.im (toD on_))] _ _)
              refine blk_seq (blk_if2 L trivial ht_ ?_ ?_)
              · have hr_ := ((ev_bl (b := false)) : EvX K (W0 E) [some (.im (toD script_)), some (.im (toD prime_)), some (.im (toD a_)), some (.im (toD d_)), some (.im (toD curve_)), some (.im (toD big_)), some (.im (toD small_)), some (.im (toD other_)), some (.im (toD first_)), some (.im (toD second_)), some (.im (toD kind_)), none, some (.im (toD total_)), some (.im (toD u_)), some (.im (toD v_)), some (.im (toD on_))] _ _)
                exact blk_ret L trivial hr_
              · refine blk_nil ?_
                try refine Blk.nx ?_
                have hr_ := ((ev_andV (ev_op opx_eqD mild_need (ev_call (f := (fun (p : Int × O_EdwardsCurve × D × Unit) => m_u_law_told p.1 p.2.1 p.2.2.1)) (ea_cons (ev_int (i := 0)) (ea_cons (ev_var (i := 4) (x := curve_) rfl) (ea_cons (ev_as (ev_tup (f := (fun y => T2.mk y.1 y.2.1)) (ea_cons (ev_var (i := 13) (x := u_) rfl) (ea_cons (ev_op (opx_I0 (g := fun i j => i + j)) mild_ok (ev_var (i := 14) (x := v_) rfl) (ev_var (i := 1) (x := prime_) rfl)) ea_nil)) (fun _ => rfl) (fun _ => by show 2 ≤ 100000; decide)) toD (fun _ => rfl) rfl) ea_nil)))) (ev_tup (f := (fun y => T2.mk y.1 y.2.1)) (ea_cons (ev_str (x := "refused")) (ea_cons (ev_str (x := "point")) ea_nil)) (fun _ => rfl) (fun _ => by show 2 ≤ 100000; decide))) (ev_andV (ev_op opx_eqD mild_need (ev_call (f := (fun (p : Int × O_EdwardsCurve × D × Unit) => m_u_law_told p.1 p.2.1 p.2.2.1)) (ea_cons (ev_int (i := 1)) (ea_cons (ev_var (i := 4) (x := curve_) rfl) (ea_cons (ev_as (ev_tup (f := (fun y => T2.mk y.1 y.2.1)) (ea_cons (ev_op (opx_I0 (g := fun i j => i - j)) mild_ok (ev_var (i := 13) (x := u_) rfl) (ev_var (i := 1) (x := prime_) rfl)) (ea_cons (ev_var (i := 14) (x := v_) rfl) ea_nil)) (fun _ => rfl) (fun _ => by show 2 ≤ 100000; decide)) toD (fun _ => rfl) rfl) ea_nil)))) (ev_tup (f := (fun y => T2.mk y.1 y.2.1)) (ea_cons (ev_str (x := "refused")) (ea_cons (ev_str (x := "point")) ea_nil)) (fun _ => rfl) (fun _ => by show 2 ≤ 100000; decide))) (ev_op opx_eqD mild_need (ev_call (f := (fun (p : Int × O_EdwardsCurve × D × Unit) => m_u_law_told p.1 p.2.1 p.2.2.1)) (ea_cons (ev_int (i := 0)) (ea_cons (ev_var (i := 4) (x := curve_) rfl) (ea_cons (ev_as (ev_ofN (en_lst (f := (fun y => ([y.1] : List Int))) (ea_cons (ev_var (i := 13) (x := u_) rfl) ea_nil) (fun _ => rfl) (fun _ => by show 1 ≤ 100000; decide))) toD (fun _ => rfl) rfl) ea_nil)))) (ev_tup (f := (fun y => T2.mk y.1 y.2.1)) (ea_cons (ev_str (x := "refused")) (ea_cons (ev_str (x := "point")) ea_nil)) (fun _ => rfl) (fun _ => by show 2 ≤ 100000; decide))))) : EvX K (W0 E) [some (.im (toD script_)), some (.im (toD prime_)), some (.im (toD a_)), some (.im (toD d_)), some (.im (toD curve_)), some (.im (toD big_)), some (.im (toD small_)), some (.im (toD other_)), some (.im (toD first_)), some (.im (toD second_)), some (.im (toD kind_)), none, some (.im (toD total_)), some (.im (toD u_)), some (.im (toD v_)), some (.im (toD on_))] _ _)
                exact blk_ret L trivial hr_
        · intro hk4
          have hs_ := ((ev_castG (f := optGet) optGet_ok optGet_x (ev_meth (c := "EdwardsCurve") (m := "lift") (ks := ["prime", "a", "d"]) (f := (fun (p : O_EdwardsCurve × Int × Bool × Unit) => m_EdwardsCurve_lift p.1 p.2.1 p.2.2.1)) (ev_var (i := 4) (x := curve_) rfl) (ea_cons (ev_int (i := 0)) (ea_cons (ev_bl (b := true)) ea_nil)) (by decide +kernel) (fun _ => ⟨_, rfl⟩))) : EvX K (W0 E) [some (.im (toD script_)), some (.im (toD prime_)), some (.im (toD a_)), some (.im (toD d_)), some (.im (toD curve_)), some (.im (toD big_)), some (.im (toD small_)), some (.im (toD other_)), some (.im (toD first_)), some (.im (toD second_)), some (.im (toD kind_)), none, none, none, none, none] _ _)
          refine blk_set (i := 8) L trivial hs_ fun first_ => ?_
          show Blk _ _ _ _ _ [some (.im (toD script_)), some (.im (toD prime_)), some (.im (toD a_)), some (.im (toD d_)), some (.im (toD curve_)), some (.im (toD big_)), some (.im (toD small_)), some (.im (toD other_)), some (.im (toD first_)), some (.im (toD second_)), some (.im (toD kind_)), none, none, none, none, none] _
          try refine Blk.nx ?_
          exact (hk4 first_).weak (.same (.same (.same (.same (.same (.same (.same (.same (.same (.same (.same (.same (.same (.same (.same (.same .nil))))))))))))))))
        · intro hk4
          refine blk_nil ?_
          try refine Blk.nx ?_
          exact (hk4 first_).weak (.same (.same (.same (.same (.same (.same (.same (.same (.same (.same (.same (.same (.same (.same (.same (.same .nil))))))))))))))))
      · intro hk3
        have hs_ := ((ev_op opx_ixL (fun x y => idx_mild x y) (ev_ofN (en_lst (f := (fun y => ([y.1, y.2.1, y.2.2.1, y.2.2.2.1] : List (T2 Int Int)))) (ea_cons (ev_tup (f := (fun y => T2.mk y.1 y.2.1)) (ea_cons (ev_int (i := 0)) (ea_cons (ev_int (i := 1)) ea_nil)) (fun _ => rfl) (fun _ => by show 2 ≤ 100000; decide)) (ea_cons (ev_tup (f := (fun y => T2.mk y.1 y.2.1)) (ea_cons (ev_int (i := 0)) (ea_cons (ev_op (opx_I0 (g := fun i j => i - j)) mild_ok (ev_var (i := 1) (x := prime_) rfl) (ev_int (i := 1))) ea_nil)) (fun _ => rfl) (fun _ => by show 2 ≤ 100000; decide)) (ea_cons (ev_var (i := 8) (x := first_) rfl) (ea_cons (ev_tup (f := (fun y => T2.mk y.1 y.2.1)) (ea_cons (ev_op (opx_I (C := (fun _ j => 0 < j)) (g := fun i j => i % j)) mild_need (ev_un (g := fun i => -i) (ev_ixTC (i := 0) (f := fun x => x.a) (ev_var (i := 8) (x := first_) rfl) (fun x => ⟨_, rfl, rfl⟩))) (ev_var (i := 1) (x := prime_) rfl)) (ea_cons (ev_ixTC (i := 1) (f := fun x => x.b) (ev_var (i := 8) (x := first_) rfl) (fun x => ⟨_, rfl, rfl⟩)) ea_nil)) (fun _ => rfl) (fun _ => by show 2 ≤ 100000; decide)) ea_nil)))) (fun _ => rfl) (fun _ => by show 4 ≤ 100000; decide))) (ev_opI (C := (fun _ j => 0 < j)) (g := fun i j => i % j) (fun x y _ h => by cases h; (show (0 : Int) < _; decide)) (ev_opI (C := CDiv) (g := fun i j => i / j) (fun x y _ h => by cases h; exact ⟨by decide, by decide⟩) (ev_cb cx_abs (fun _ _ h => nomatch h) (ea_cons (ev_call (f := (fun (p : (Ro Int) × Int × Unit) => m_u_law_cell p.1 p.2.1)) (ea_cons (ev_var (i := 0) (x := script_) rfl) (ea_cons (ev_int (i := 5)) ea_nil))) ea_nil)) (ev_int (i := 6))) (ev_int (i := 4)))) : EvX K (W0 E) [some (.im (toD script_)), some (.im (toD prime_)), some (.im (toD a_)), some (.im (toD d_)), some (.im (toD curve_)), some (.im (toD big_)), some (.im (toD small_)), some (.im (toD other_)), some (.im (toD first_)), some (.im (toD second_)), some (.im (toD kind_)), none, none, none, none, none] _ _)
        refine blk_set (i := 9) L trivial hs_ fun second_ => ?_
        show Blk _ _ _ _ _ [some (.im (toD script_)), some (.im (toD prime_)), some (.im (toD a_)), some (.im (toD d_)), some (.im (toD curve_)), some (.im (toD big_)), some (.im (toD small_)), some (.im (toD other_)), some (.im (toD first_)), some (.im (toD second_)), some (.im (toD kind_)), none, none, none, none, none] _
        try refine Blk.nx ?_
        exact (hk3 second_).weak (.same (.same (.same (.same (.same (.same (.same (.same (.same (.same (.same (.same (.same (.same (.same (.same .nil))))))))))))))))
      · intro hk3
        refine blk_nil ?_
        try refine Blk.nx ?_
        exact (hk3 second_).weak (.same (.same (.same (.same (.same (.same (.same (.same (.same (.same (.same (.same (.same (.same (.same (.same .nil))))))))))))))))
/-! ### the head -/
def dfs : List He.DefD := [⟨("is_whole", none), "is_whole", "is_whole", defArgs s_is_whole, defBody s_is_whole, defScope s_is_whole, [], []⟩, ⟨("is_residue", none), "is_residue", "is_residue", defArgs s_is_residue, defBody s_is_residue, defScope s_is_residue, [], []⟩, ⟨("is_residue_pair", none), "is_residue_pair", "is_residue_pair", defArgs s_is_residue_pair, defBody s_is_residue_pair, defScope s_is_residue_pair, [], []⟩, ⟨("bezout", none), "bezout", "bezout", defArgs s_bezout, defBody s_bezout, defScope s_bezout, [], []⟩, ⟨("inverse", none), "inverse", "inverse", defArgs s_inverse, defBody s_inverse, defScope s_inverse, [], []⟩, ⟨("power", none), "power", "power", defArgs s_power, defBody s_power, defScope s_power, [], []⟩, ⟨("square_class", none), "square_class", "square_class", defArgs s_square_class, defBody s_square_class, defScope s_square_class, [], []⟩, ⟨("split_twos", none), "split_twos", "split_twos", defArgs s_split_twos, defBody s_split_twos, defScope s_split_twos, [], []⟩, ⟨("square_root", none), "square_root", "square_root", defArgs s_square_root, defBody s_square_root, defScope s_square_root, [], []⟩, ⟨("_root_of_square", none), "_root_of_square", "_root_of_square", defArgs s_u_root_of_square, defBody s_u_root_of_square, defScope s_u_root_of_square, [], []⟩, ⟨("_non_square", none), "_non_square", "_non_square", defArgs s_u_non_square, defBody s_u_non_square, defScope s_u_non_square, [], []⟩, ⟨("root_with_parity", none), "root_with_parity", "root_with_parity", defArgs s_root_with_parity, defBody s_root_with_parity, defScope s_root_with_parity, [], []⟩, ⟨("Curve", some "__init__"), "__init__", "Curve.__init__", defArgs s_Curve_init, defBody s_Curve_init, defScope s_Curve_init, [], []⟩, ⟨("Curve", some "has"), "has", "Curve.has", defArgs s_Curve_has, defBody s_Curve_has, defScope s_Curve_has, [], []⟩, ⟨("Curve", some "_right_side"), "_right_side", "Curve._right_side", defArgs s_Curve_u_right_side, defBody s_Curve_u_right_side, defScope s_Curve_u_right_side, [], []⟩, ⟨("Curve", some "negate"), "negate", "Curve.negate", defArgs s_Curve_negate, defBody s_Curve_negate, defScope s_Curve_negate, [], []⟩, ⟨("Curve", some "add"), "add", "Curve.add", defArgs s_Curve_add, defBody s_Curve_add, defScope s_Curve_add, [], []⟩, ⟨("Curve", some "_slope"), "_slope", "Curve._slope", defArgs s_Curve_u_slope, defBody s_Curve_u_slope, defScope s_Curve_u_slope, [], []⟩, ⟨("Curve", some "lift"), "lift", "Curve.lift", defArgs s_Curve_lift, defBody s_Curve_lift, defScope s_Curve_lift, [], []⟩, ⟨("montgomery_numbers", none), "montgomery_numbers", "montgomery_numbers", defArgs s_montgomery_numbers, defBody s_montgomery_numbers, defScope s_montgomery_numbers, [], []⟩, ⟨("to_montgomery", none), "to_montgomery", "to_montgomery", defArgs s_to_montgomery, defBody s_to_montgomery, defScope s_to_montgomery, [], []⟩, ⟨("from_montgomery", none), "from_montgomery", "from_montgomery", defArgs s_from_montgomery, defBody s_from_montgomery, defScope s_from_montgomery, [], []⟩, ⟨("_on_montgomery", none), "_on_montgomery", "_on_montgomery", defArgs s_u_on_montgomery, defBody s_u_on_montgomery, defScope s_u_on_montgomery, [], []⟩, ⟨("weierstrass_of", none), "weierstrass_of", "weierstrass_of", defArgs s_weierstrass_of, defBody s_weierstrass_of, defScope s_weierstrass_of, [], []⟩, ⟨("_check_prime", none), "_check_prime", "_check_prime", defArgs s_u_check_prime, defBody s_u_check_prime, defScope s_u_check_prime, [], []⟩, ⟨("to_weierstrass", none), "to_weierstrass", "to_weierstrass", defArgs s_to_weierstrass, defBody s_to_weierstrass, defScope s_to_weierstrass, [], []⟩, ⟨("from_weierstrass", none), "from_weierstrass", "from_weierstrass", defArgs s_from_weierstrass, defBody s_from_weierstrass, defScope s_from_weierstrass, [], []⟩, ⟨("EdwardsCurve", some "__init__"), "__init__", "EdwardsCurve.__init__", defArgs s_EdwardsCurve_init, defBody s_EdwardsCurve_init, defScope s_EdwardsCurve_init, [], []⟩, ⟨("EdwardsCurve", some "has"), "has", "EdwardsCurve.has", defArgs s_EdwardsCurve_has, defBody s_EdwardsCurve_has, defScope s_EdwardsCurve_has, [], []⟩, ⟨("EdwardsCurve", some "negate"), "negate", "EdwardsCurve.negate", defArgs s_EdwardsCurve_negate, defBody s_EdwardsCurve_negate, defScope s_EdwardsCurve_negate, [], []⟩, ⟨("EdwardsCurve", some "add"), "add", "EdwardsCurve.add", defArgs s_EdwardsCurve_add, defBody s_EdwardsCurve_add, defScope s_EdwardsCurve_add, [], []⟩, ⟨("EdwardsCurve", some "lift"), "lift", "EdwardsCurve.lift", defArgs s_EdwardsCurve_lift, defBody s_EdwardsCurve_lift, defScope s_EdwardsCurve_lift, [], []⟩, ⟨("_law_cell", none), "_law_cell", "_law_cell", defArgs s_u_law_cell, defBody s_u_law_cell, defScope s_u_law_cell, [], []⟩, ⟨("_law_is_integer", none), "_law_is_integer", "_law_is_integer", defArgs s_u_law_is_integer, defBody s_u_law_is_integer, defScope s_u_law_is_integer, [], []⟩, ⟨("_law_is_prime", none), "_law_is_prime", "_law_is_prime", defArgs s_u_law_is_prime, defBody s_u_law_is_prime, defScope s_u_law_is_prime, [], []⟩, ⟨("_law_prime", none), "_law_prime", "_law_prime", defArgs s_u_law_prime, defBody s_u_law_prime, defScope s_u_law_prime, [], []⟩, ⟨("_law_power", none), "_law_power", "_law_power", defArgs s_u_law_power, defBody s_u_law_power, defScope s_u_law_power, [], []⟩, ⟨("_law_inverse", none), "_law_inverse", "_law_inverse", defArgs s_u_law_inverse, defBody s_u_law_inverse, defScope s_u_law_inverse, [], []⟩, ⟨("_law_residue", none), "_law_residue", "_law_residue", defArgs s_u_law_residue, defBody s_u_law_residue, defScope s_u_law_residue, [], []⟩, ⟨("_law_class", none), "_law_class", "_law_class", defArgs s_u_law_class, defBody s_u_law_class, defScope s_u_law_class, [], []⟩, ⟨("_law_edwards_prime", none), "_law_edwards_prime", "_law_edwards_prime", defArgs s_u_law_edwards_prime, defBody s_u_law_edwards_prime, defScope s_u_law_edwards_prime, [], []⟩, ⟨("_law_numbers", none), "_law_numbers", "_law_numbers", defArgs s_u_law_numbers, defBody s_u_law_numbers, defScope s_u_law_numbers, [], []⟩, ⟨("_law_on", none), "_law_on", "_law_on", defArgs s_u_law_on, defBody s_u_law_on, defScope s_u_law_on, [], []⟩, ⟨("_law_lifted", none), "_law_lifted", "_law_lifted", defArgs s_u_law_lifted, defBody s_u_law_lifted, defScope s_u_law_lifted, [], []⟩, ⟨("_law_add", none), "_law_add", "_law_add", defArgs s_u_law_add, defBody s_u_law_add, defScope s_u_law_add, [], []⟩, ⟨("_law_montgomery", none), "_law_montgomery", "_law_montgomery", defArgs s_u_law_montgomery, defBody s_u_law_montgomery, defScope s_u_law_montgomery, [], []⟩, ⟨("_law_told", none), "_law_told", "_law_told", defArgs s_u_law_told, defBody s_u_law_told, defScope s_u_law_told, [], []⟩, ⟨("_law_numbers_due", none), "_law_numbers_due", "_law_numbers_due", defArgs s_u_law_numbers_due, defBody s_u_law_numbers_due, defScope s_u_law_numbers_due, [], []⟩, ⟨("_law_shape", none), "_law_shape", "_law_shape", defArgs s_u_law_shape, defBody s_u_law_shape, defScope s_u_law_shape, [], []⟩, ⟨("_law_right_point", none), "_law_right_point", "_law_right_point", defArgs s_u_law_right_point, defBody s_u_law_right_point, defScope s_u_law_right_point, [], []⟩, ⟨("law", none), "law", "law", defArgs s_law, defBody s_law, defScope s_law, [], []⟩]
def fas : List He.Fa := [.glo "is_whole", .glo "is_residue", .glo "is_residue_pair", .glo "bezout", .glo "inverse", .glo "power", .glo "square_class", .glo "split_twos", .glo "square_root", .glo "_root_of_square", .glo "_non_square", .glo "root_with_parity", .glo "montgomery_numbers", .glo "to_montgomery", .glo "from_montgomery", .glo "_on_montgomery", .glo "weierstrass_of", .glo "_check_prime", .glo "to_weierstrass", .glo "from_weierstrass", .glo "_law_cell", .glo "_law_is_integer", .glo "_law_is_prime", .glo "_law_prime", .glo "_law_power", .glo "_law_inverse", .glo "_law_residue", .glo "_law_class", .glo "_law_edwards_prime", .glo "_law_numbers", .glo "_law_on", .glo "_law_lifted", .glo "_law_add", .glo "_law_montgomery", .glo "_law_told", .glo "_law_numbers_due", .glo "_law_shape", .glo "_law_right_point", .glo "law", .glo "Curve", .cls "Curve", .glo "EdwardsCurve", .cls "EdwardsCurve", .noat "Curve" "a", .noat "Curve" "b", .noat "Curve" "prime", .noat "EdwardsCurve" "a", .noat "EdwardsCurve" "d", .noat "EdwardsCurve" "prime", .meth "Curve" "_right_side", .meth "Curve" "_slope", .meth "Curve" "add", .meth "Curve" "has", .meth "Curve" "negate", .meth "EdwardsCurve" "lift", .mkr "Curve", .mkr "EdwardsCurve", .glo "CurveError", .glo "OutOfRange", .glo "Malformed", .glo "NotAPoint", .glo "NoInverse", .glo "Refused", .exc "NoInverse", .exc "NotAPoint", .exc "OutOfRange", .exc "Refused", .free "abs", .free "all", .free "bool", .free "int", .free "isinstance", .free "len", .free "min", .free "range", .free "tuple", .exm "CurveError" "CurveError" true, .exm "CurveError" "OutOfRange" false, .exm "CurveError" "Malformed" false, .exm "CurveError" "NotAPoint" false, .exm "CurveError" "NoInverse" false, .exm "CurveError" "Refused" false, .exm "OutOfRange" "CurveError" true, .exm "OutOfRange" "OutOfRange" true, .exm "OutOfRange" "Malformed" false, .exm "OutOfRange" "NotAPoint" false, .exm "OutOfRange" "NoInverse" false, .exm "OutOfRange" "Refused" false, .exm "Malformed" "CurveError" true, .exm "Malformed" "OutOfRange" false, .exm "Malformed" "Malformed" true, .exm "Malformed" "NotAPoint" false, .exm "Malformed" "NoInverse" false, .exm "Malformed" "Refused" false, .exm "NotAPoint" "CurveError" true, .exm "NotAPoint" "OutOfRange" false, .exm "NotAPoint" "Malformed" false, .exm "NotAPoint" "NotAPoint" true, .exm "NotAPoint" "NoInverse" false, .exm "NotAPoint" "Refused" false, .exm "NoInverse" "CurveError" true, .exm "NoInverse" "OutOfRange" false, .exm "NoInverse" "Malformed" false, .exm "NoInverse" "NotAPoint" false, .exm "NoInverse" "NoInverse" true, .exm "NoInverse" "Refused" false, .exm "Refused" "CurveError" true, .exm "Refused" "OutOfRange" false, .exm "Refused" "Malformed" false, .exm "Refused" "NotAPoint" false, .exm "Refused" "NoInverse" false, .exm "Refused" "Refused" true]
def cons_ : List (Str × D) := []
def exB (K : PySem.W.Frag) : Bool := clsB K errs subE && conB K cons_
abbrev Rw : PySem.W.OpenRow := PySem.W.OpenLaw.row PySem.Challenge.rw_curveseal_k21_shapes_of_a_curve
abbrev hk : PySem.W.Hook := He.hookX 5 fas dfs [] [] exB
def ob (s : PySem.W.SharedT) : He.AlX := He.obsX 5 fas dfs [] [] exB (HandSHeadRun.getT s)
theorem ob_eq (s : PySem.W.SharedT) : ob s = hk.obs s.abs := He.obsX_eq (HandSHeadRun.getT_eq s)
theorem run_ (w : World) : HandSHeadRun.RunEq Rw (PySem.W.view Rw.prog [54]) hk ob 20000 ((["is_whole", "is_residue", "is_residue_pair", "bezout", "inverse", "power", "square_class", "split_twos", "square_root", "_root_of_square", "_non_square", "root_with_parity", "montgomery_numbers", "to_montgomery", "from_montgomery", "_on_montgomery", "weierstrass_of", "_check_prime", "to_weierstrass", "from_weierstrass", "_law_cell", "_law_is_integer", "_law_is_prime", "_law_prime", "_law_power"] : List Str) ++ (["_law_inverse", "_law_residue", "_law_class", "_law_edwards_prime", "_law_numbers", "_law_on", "_law_lifted", "_law_add", "_law_montgomery", "_law_told", "_law_numbers_due", "_law_shape", "_law_right_point", "_wall", "CurveError", "OutOfRange", "Malformed", "NotAPoint", "NoInverse", "Refused", "Curve", "EdwardsCurve"] : List Str)) w := by
  intro os
  kernel_rfl
theorem facts_of {K : PySem.W.Frag} {h : Heap} {w : World} {mg : Str → Option Value} (X : K.In h) (G : h.Ns mainGlobals mg) (c : He.SaysX fas dfs [] [] exB w h K) : Facts K mg := by
  have cd : He.SaysD fas dfs K := c.t.d
  exact {
    d_is_whole := cd.def_ 0 (d := ⟨("is_whole", none), "is_whole", "is_whole", defArgs s_is_whole, defBody s_is_whole, defScope s_is_whole, [], []⟩) rfl
    g_is_whole := He.glo_ok X G (cd.fact 0 rfl)
    d_is_residue := cd.def_ 1 (d := ⟨("is_residue", none), "is_residue", "is_residue", defArgs s_is_residue, defBody s_is_residue, defScope s_is_residue, [], []⟩) rfl
    g_is_residue := He.glo_ok X G (cd.fact 1 rfl)
    d_is_residue_pair := cd.def_ 2 (d := ⟨("is_residue_pair", none), "is_residue_pair", "is_residue_pair", defArgs s_is_residue_pair, defBody s_is_residue_pair, defScope s_is_residue_pair, [], []⟩) rfl
    g_is_residue_pair := He.glo_ok X G (cd.fact 2 rfl)
    d_bezout := cd.def_ 3 (d := ⟨("bezout", none), "bezout", "bezout", defArgs s_bezout, defBody s_bezout, defScope s_bezout, [], []⟩) rfl
    g_bezout := He.glo_ok X G (cd.fact 3 rfl)
    d_inverse := cd.def_ 4 (d := ⟨("inverse", none), "inverse", "inverse", defArgs s_inverse, defBody s_inverse, defScope s_inverse, [], []⟩) rfl
    g_inverse := He.glo_ok X G (cd.fact 4 rfl)
    d_power := cd.def_ 5 (d := ⟨("power", none), "power", "power", defArgs s_power, defBody s_power, defScope s_power, [], []⟩) rfl
    g_power := He.glo_ok X G (cd.fact 5 rfl)
    d_square_class := cd.def_ 6 (d := ⟨("square_class", none), "square_class", "square_class", defArgs s_square_class, defBody s_square_class, defScope s_square_class, [], []⟩) rfl
    g_square_class := He.glo_ok X G (cd.fact 6 rfl)
    d_split_twos := cd.def_ 7 (d := ⟨("split_twos", none), "split_twos", "split_twos", defArgs s_split_twos, defBody s_split_twos, defScope s_split_twos, [], []⟩) rfl
    g_split_twos := He.glo_ok X G (cd.fact 7 rfl)
    d_square_root := cd.def_ 8 (d := ⟨("square_root", none), "square_root", "square_root", defArgs s_square_root, defBody s_square_root, defScope s_square_root, [], []⟩) rfl
    g_square_root := He.glo_ok X G (cd.fact 8 rfl)
    d_u_root_of_square := cd.def_ 9 (d := ⟨("_root_of_square", none), "_root_of_square", "_root_of_square", defArgs s_u_root_of_square, defBody s_u_root_of_square, defScope s_u_root_of_square, [], []⟩) rfl
    g_u_root_of_square := He.glo_ok X G (cd.fact 9 rfl)
    d_u_non_square := cd.def_ 10 (d := ⟨("_non_square", none), "_non_square", "_non_square", defArgs s_u_non_square, defBody s_u_non_square, defScope s_u_non_square, [], []⟩) rfl
    g_u_non_square := He.glo_ok X G (cd.fact 10 rfl)
    d_root_with_parity := cd.def_ 11 (d := ⟨("root_with_parity", none), "root_with_parity", "root_with_parity", defArgs s_root_with_parity, defBody s_root_with_parity, defScope s_root_with_parity, [], []⟩) rfl
    g_root_with_parity := He.glo_ok X G (cd.fact 11 rfl)
    d_Curve_init := cd.def_ 12 (d := ⟨("Curve", some "__init__"), "__init__", "Curve.__init__", defArgs s_Curve_init, defBody s_Curve_init, defScope s_Curve_init, [], []⟩) rfl
    d_Curve_has := cd.def_ 13 (d := ⟨("Curve", some "has"), "has", "Curve.has", defArgs s_Curve_has, defBody s_Curve_has, defScope s_Curve_has, [], []⟩) rfl
    d_Curve_u_right_side := cd.def_ 14 (d := ⟨("Curve", some "_right_side"), "_right_side", "Curve._right_side", defArgs s_Curve_u_right_side, defBody s_Curve_u_right_side, defScope s_Curve_u_right_side, [], []⟩) rfl
    d_Curve_negate := cd.def_ 15 (d := ⟨("Curve", some "negate"), "negate", "Curve.negate", defArgs s_Curve_negate, defBody s_Curve_negate, defScope s_Curve_negate, [], []⟩) rfl
    d_Curve_add := cd.def_ 16 (d := ⟨("Curve", some "add"), "add", "Curve.add", defArgs s_Curve_add, defBody s_Curve_add, defScope s_Curve_add, [], []⟩) rfl
    d_Curve_u_slope := cd.def_ 17 (d := ⟨("Curve", some "_slope"), "_slope", "Curve._slope", defArgs s_Curve_u_slope, defBody s_Curve_u_slope, defScope s_Curve_u_slope, [], []⟩) rfl
    d_Curve_lift := cd.def_ 18 (d := ⟨("Curve", some "lift"), "lift", "Curve.lift", defArgs s_Curve_lift, defBody s_Curve_lift, defScope s_Curve_lift, [], []⟩) rfl
    d_montgomery_numbers := cd.def_ 19 (d := ⟨("montgomery_numbers", none), "montgomery_numbers", "montgomery_numbers", defArgs s_montgomery_numbers, defBody s_montgomery_numbers, defScope s_montgomery_numbers, [], []⟩) rfl
    g_montgomery_numbers := He.glo_ok X G (cd.fact 12 rfl)
    d_to_montgomery := cd.def_ 20 (d := ⟨("to_montgomery", none), "to_montgomery", "to_montgomery", defArgs s_to_montgomery, defBody s_to_montgomery, defScope s_to_montgomery, [], []⟩) rfl
    g_to_montgomery := He.glo_ok X G (cd.fact 13 rfl)
    d_from_montgomery := cd.def_ 21 (d := ⟨("from_montgomery", none), "from_montgomery", "from_montgomery", defArgs s_from_montgomery, defBody s_from_montgomery, defScope s_from_montgomery, [], []⟩) rfl
    g_from_montgomery := He.glo_ok X G (cd.fact 14 rfl)
    d_u_on_montgomery := cd.def_ 22 (d := ⟨("_on_montgomery", none), "_on_montgomery", "_on_montgomery", defArgs s_u_on_montgomery, defBody s_u_on_montgomery, defScope s_u_on_montgomery, [], []⟩) rfl
    g_u_on_montgomery := He.glo_ok X G (cd.fact 15 rfl)
    d_weierstrass_of := cd.def_ 23 (d := ⟨("weierstrass_of", none), "weierstrass_of", "weierstrass_of", defArgs s_weierstrass_of, defBody s_weierstrass_of, defScope s_weierstrass_of, [], []⟩) rfl
    g_weierstrass_of := He.glo_ok X G (cd.fact 16 rfl)
    d_u_check_prime := cd.def_ 24 (d := ⟨("_check_prime", none), "_check_prime", "_check_prime", defArgs s_u_check_prime, defBody s_u_check_prime, defScope s_u_check_prime, [], []⟩) rfl
    g_u_check_prime := He.glo_ok X G (cd.fact 17 rfl)
    d_to_weierstrass := cd.def_ 25 (d := ⟨("to_weierstrass", none), "to_weierstrass", "to_weierstrass", defArgs s_to_weierstrass, defBody s_to_weierstrass, defScope s_to_weierstrass, [], []⟩) rfl
    g_to_weierstrass := He.glo_ok X G (cd.fact 18 rfl)
    d_from_weierstrass := cd.def_ 26 (d := ⟨("from_weierstrass", none), "from_weierstrass", "from_weierstrass", defArgs s_from_weierstrass, defBody s_from_weierstrass, defScope s_from_weierstrass, [], []⟩) rfl
    g_from_weierstrass := He.glo_ok X G (cd.fact 19 rfl)
    d_EdwardsCurve_init := cd.def_ 27 (d := ⟨("EdwardsCurve", some "__init__"), "__init__", "EdwardsCurve.__init__", defArgs s_EdwardsCurve_init, defBody s_EdwardsCurve_init, defScope s_EdwardsCurve_init, [], []⟩) rfl
    d_EdwardsCurve_has := cd.def_ 28 (d := ⟨("EdwardsCurve", some "has"), "has", "EdwardsCurve.has", defArgs s_EdwardsCurve_has, defBody s_EdwardsCurve_has, defScope s_EdwardsCurve_has, [], []⟩) rfl
    d_EdwardsCurve_negate := cd.def_ 29 (d := ⟨("EdwardsCurve", some "negate"), "negate", "EdwardsCurve.negate", defArgs s_EdwardsCurve_negate, defBody s_EdwardsCurve_negate, defScope s_EdwardsCurve_negate, [], []⟩) rfl
    d_EdwardsCurve_add := cd.def_ 30 (d := ⟨("EdwardsCurve", some "add"), "add", "EdwardsCurve.add", defArgs s_EdwardsCurve_add, defBody s_EdwardsCurve_add, defScope s_EdwardsCurve_add, [], []⟩) rfl
    d_EdwardsCurve_lift := cd.def_ 31 (d := ⟨("EdwardsCurve", some "lift"), "lift", "EdwardsCurve.lift", defArgs s_EdwardsCurve_lift, defBody s_EdwardsCurve_lift, defScope s_EdwardsCurve_lift, [], []⟩) rfl
    d_u_law_cell := cd.def_ 32 (d := ⟨("_law_cell", none), "_law_cell", "_law_cell", defArgs s_u_law_cell, defBody s_u_law_cell, defScope s_u_law_cell, [], []⟩) rfl
    g_u_law_cell := He.glo_ok X G (cd.fact 20 rfl)
    d_u_law_is_integer := cd.def_ 33 (d := ⟨("_law_is_integer", none), "_law_is_integer", "_law_is_integer", defArgs s_u_law_is_integer, defBody s_u_law_is_integer, defScope s_u_law_is_integer, [], []⟩) rfl
    g_u_law_is_integer := He.glo_ok X G (cd.fact 21 rfl)
    d_u_law_is_prime := cd.def_ 34 (d := ⟨("_law_is_prime", none), "_law_is_prime", "_law_is_prime", defArgs s_u_law_is_prime, defBody s_u_law_is_prime, defScope s_u_law_is_prime, [], []⟩) rfl
    g_u_law_is_prime := He.glo_ok X G (cd.fact 22 rfl)
    d_u_law_prime := cd.def_ 35 (d := ⟨("_law_prime", none), "_law_prime", "_law_prime", defArgs s_u_law_prime, defBody s_u_law_prime, defScope s_u_law_prime, [], []⟩) rfl
    g_u_law_prime := He.glo_ok X G (cd.fact 23 rfl)
    d_u_law_power := cd.def_ 36 (d := ⟨("_law_power", none), "_law_power", "_law_power", defArgs s_u_law_power, defBody s_u_law_power, defScope s_u_law_power, [], []⟩) rfl
    g_u_law_power := He.glo_ok X G (cd.fact 24 rfl)
    d_u_law_inverse := cd.def_ 37 (d := ⟨("_law_inverse", none), "_law_inverse", "_law_inverse", defArgs s_u_law_inverse, defBody s_u_law_inverse, defScope s_u_law_inverse, [], []⟩) rfl
    g_u_law_inverse := He.glo_ok X G (cd.fact 25 rfl)
    d_u_law_residue := cd.def_ 38 (d := ⟨("_law_residue", none), "_law_residue", "_law_residue", defArgs s_u_law_residue, defBody s_u_law_residue, defScope s_u_law_residue, [], []⟩) rfl
    g_u_law_residue := He.glo_ok X G (cd.fact 26 rfl)
    d_u_law_class := cd.def_ 39 (d := ⟨("_law_class", none), "_law_class", "_law_class", defArgs s_u_law_class, defBody s_u_law_class, defScope s_u_law_class, [], []⟩) rfl
    g_u_law_class := He.glo_ok X G (cd.fact 27 rfl)
    d_u_law_edwards_prime := cd.def_ 40 (d := ⟨("_law_edwards_prime", none), "_law_edwards_prime", "_law_edwards_prime", defArgs s_u_law_edwards_prime, defBody s_u_law_edwards_prime, defScope s_u_law_edwards_prime, [], []⟩) rfl
    g_u_law_edwards_prime := He.glo_ok X G (cd.fact 28 rfl)
    d_u_law_numbers := cd.def_ 41 (d := ⟨("_law_numbers", none), "_law_numbers", "_law_numbers", defArgs s_u_law_numbers, defBody s_u_law_numbers, defScope s_u_law_numbers, [], []⟩) rfl
    g_u_law_numbers := He.glo_ok X G (cd.fact 29 rfl)
    d_u_law_on := cd.def_ 42 (d := ⟨("_law_on", none), "_law_on", "_law_on", defArgs s_u_law_on, defBody s_u_law_on, defScope s_u_law_on, [], []⟩) rfl
    g_u_law_on := He.glo_ok X G (cd.fact 30 rfl)
    d_u_law_lifted := cd.def_ 43 (d := ⟨("_law_lifted", none), "_law_lifted", "_law_lifted", defArgs s_u_law_lifted, defBody s_u_law_lifted, defScope s_u_law_lifted, [], []⟩) rfl
    g_u_law_lifted := He.glo_ok X G (cd.fact 31 rfl)
    d_u_law_add := cd.def_ 44 (d := ⟨("_law_add", none), "_law_add", "_law_add", defArgs s_u_law_add, defBody s_u_law_add, defScope s_u_law_add, [], []⟩) rfl
    g_u_law_add := He.glo_ok X G (cd.fact 32 rfl)
    d_u_law_montgomery := cd.def_ 45 (d := ⟨("_law_montgomery", none), "_law_montgomery", "_law_montgomery", defArgs s_u_law_montgomery, defBody s_u_law_montgomery, defScope s_u_law_montgomery, [], []⟩) rfl
    g_u_law_montgomery := He.glo_ok X G (cd.fact 33 rfl)
    d_u_law_told := cd.def_ 46 (d := ⟨("_law_told", none), "_law_told", "_law_told", defArgs s_u_law_told, defBody s_u_law_told, defScope s_u_law_told, [], []⟩) rfl
    g_u_law_told := He.glo_ok X G (cd.fact 34 rfl)
    d_u_law_numbers_due := cd.def_ 47 (d := ⟨("_law_numbers_due", none), "_law_numbers_due", "_law_numbers_due", defArgs s_u_law_numbers_due, defBody s_u_law_numbers_due, defScope s_u_law_numbers_due, [], []⟩) rfl
    g_u_law_numbers_due := He.glo_ok X G (cd.fact 35 rfl)
    d_u_law_shape := cd.def_ 48 (d := ⟨("_law_shape", none), "_law_shape", "_law_shape", defArgs s_u_law_shape, defBody s_u_law_shape, defScope s_u_law_shape, [], []⟩) rfl
    g_u_law_shape := He.glo_ok X G (cd.fact 36 rfl)
    d_u_law_right_point := cd.def_ 49 (d := ⟨("_law_right_point", none), "_law_right_point", "_law_right_point", defArgs s_u_law_right_point, defBody s_u_law_right_point, defScope s_u_law_right_point, [], []⟩) rfl
    g_u_law_right_point := He.glo_ok X G (cd.fact 37 rfl)
    d_law := cd.def_ 50 (d := ⟨("law", none), "law", "law", defArgs s_law, defBody s_law, defScope s_law, [], []⟩) rfl
    g_law := He.glo_ok X G (cd.fact 38 rfl)
    g_Curve := He.glo_ok X G (cd.fact 39 rfl)
    cl_Curve := He.cls_ok (x := "Curve") (cd.fact 40 rfl)
    g_EdwardsCurve := He.glo_ok X G (cd.fact 41 rfl)
    cl_EdwardsCurve := He.cls_ok (x := "EdwardsCurve") (cd.fact 42 rfl)
    nf_Curve_a := He.noat_ok (x := "Curve") (f := "a") (cd.fact 43 rfl)
    nf_Curve_b := He.noat_ok (x := "Curve") (f := "b") (cd.fact 44 rfl)
    nf_Curve_prime := He.noat_ok (x := "Curve") (f := "prime") (cd.fact 45 rfl)
    nf_EdwardsCurve_a := He.noat_ok (x := "EdwardsCurve") (f := "a") (cd.fact 46 rfl)
    nf_EdwardsCurve_d := He.noat_ok (x := "EdwardsCurve") (f := "d") (cd.fact 47 rfl)
    nf_EdwardsCurve_prime := He.noat_ok (x := "EdwardsCurve") (f := "prime") (cd.fact 48 rfl)
    mt_Curve_u_right_side := He.meth_ok (x := "Curve") (m := "_right_side") (cd.fact 49 rfl)
    mt_Curve_u_slope := He.meth_ok (x := "Curve") (m := "_slope") (cd.fact 50 rfl)
    mt_Curve_add := He.meth_ok (x := "Curve") (m := "add") (cd.fact 51 rfl)
    mt_Curve_has := He.meth_ok (x := "Curve") (m := "has") (cd.fact 52 rfl)
    mt_Curve_negate := He.meth_ok (x := "Curve") (m := "negate") (cd.fact 53 rfl)
    mt_EdwardsCurve_lift := He.meth_ok (x := "EdwardsCurve") (m := "lift") (cd.fact 54 rfl)
    mk_Curve := He.mkr_ok (x := "Curve") (cd.fact 55 rfl)
    mk_EdwardsCurve := He.mkr_ok (x := "EdwardsCurve") (cd.fact 56 rfl)
    g_CurveError := He.glo_ok X G (cd.fact 57 rfl)
    g_OutOfRange := He.glo_ok X G (cd.fact 58 rfl)
    g_Malformed := He.glo_ok X G (cd.fact 59 rfl)
    g_NotAPoint := He.glo_ok X G (cd.fact 60 rfl)
    g_NoInverse := He.glo_ok X G (cd.fact 61 rfl)
    g_Refused := He.glo_ok X G (cd.fact 62 rfl)
    x_NoInverse := (He.exc_ok (x := "NoInverse") (cd.fact 63 rfl)).1
    k_NoInverse := (He.exc_ok (x := "NoInverse") (cd.fact 63 rfl)).2.1
    b_NoInverse := (He.exc_ok (x := "NoInverse") (cd.fact 63 rfl)).2.2.1
    t_NoInverse := (He.exc_ok (x := "NoInverse") (cd.fact 63 rfl)).2.2.2
    x_NotAPoint := (He.exc_ok (x := "NotAPoint") (cd.fact 64 rfl)).1
    k_NotAPoint := (He.exc_ok (x := "NotAPoint") (cd.fact 64 rfl)).2.1
    b_NotAPoint := (He.exc_ok (x := "NotAPoint") (cd.fact 64 rfl)).2.2.1
    t_NotAPoint := (He.exc_ok (x := "NotAPoint") (cd.fact 64 rfl)).2.2.2
    x_OutOfRange := (He.exc_ok (x := "OutOfRange") (cd.fact 65 rfl)).1
    k_OutOfRange := (He.exc_ok (x := "OutOfRange") (cd.fact 65 rfl)).2.1
    b_OutOfRange := (He.exc_ok (x := "OutOfRange") (cd.fact 65 rfl)).2.2.1
    t_OutOfRange := (He.exc_ok (x := "OutOfRange") (cd.fact 65 rfl)).2.2.2
    x_Refused := (He.exc_ok (x := "Refused") (cd.fact 66 rfl)).1
    k_Refused := (He.exc_ok (x := "Refused") (cd.fact 66 rfl)).2.1
    b_Refused := (He.exc_ok (x := "Refused") (cd.fact 66 rfl)).2.2.1
    t_Refused := (He.exc_ok (x := "Refused") (cd.fact 66 rfl)).2.2.2
    n_abs := He.free_ok X G (cd.fact 67 rfl)
    n_all := He.free_ok X G (cd.fact 68 rfl)
    n_bool := He.free_ok X G (cd.fact 69 rfl)
    n_int := He.free_ok X G (cd.fact 70 rfl)
    n_isinstance := He.free_ok X G (cd.fact 71 rfl)
    n_len := He.free_ok X G (cd.fact 72 rfl)
    n_min := He.free_ok X G (cd.fact 73 rfl)
    n_range := He.free_ok X G (cd.fact 74 rfl)
    n_tuple := He.free_ok X G (cd.fact 75 rfl)
    cls := cls_of (He.ba c.more).1 }
end Mi
namespace Mi
open PySem PySem.Spec L2
/-! ### the law's own helpers -/
theorem cell_ok (ns : Ro Int) (k : Nat) : m_u_law_cell ns (k : Int) = .ok (ns.xs.getD k 0) := by
  unfold m_u_law_cell
  simp only [Res.bind_ok, cond_dec]
  by_cases h : (k : Int) < (ns.xs.length : Int)
  · rw [if_pos h]
    have h' : k < ns.xs.length := by omega
    rw [idx_nat (List.getElem?_eq_getElem h')]
    simp [Res.bind_ok, h']
  · rw [if_neg h]
    have h' : ¬ k < ns.xs.length := by omega
    simp [h']
theorem cell_bits {ns : Ro Int} {B : Nat} (hb : ∀ i ∈ ns.xs, Builtin.Int.intBits i ≤ B) (k : Nat) : (ns.xs.getD k 0).natAbs < 2 ^ B := by
  rw [List.getD_eq_getElem?_getD]
  by_cases h : k < ns.xs.length
  · rw [List.getElem?_eq_getElem h]
    exact ibits_le (hb _ (List.getElem_mem h))
  · rw [List.getElem?_eq_none (by omega)]
    exact Nat.two_pow_pos _
theorem isint_ok (i : Int) : m_u_law_is_integer (D.int i) = .ok true := by
  unfold m_u_law_is_integer
  simp [Res.bind_ok, toD, ToD.d, D.plain, isI, tyName, Res.need_pos]
theorem cell_ex (ns : Ro Int) {k : Int} (hk : 0 ≤ k) : ∃ c, m_u_law_cell ns k = .ok c := by
  obtain ⟨j, rfl⟩ := Int.eq_ofNat_of_zero_le hk
  exact ⟨_, cell_ok ns j⟩


theorem ipow2 (x : Int) : x ^ 2 = x * x := by rw [Int.pow_succ, Int.pow_succ, Int.pow_zero, Int.one_mul]
theorem pyDown_nil {i j : Int} (h : i ≤ j) : pyDown i j = [] := by
  unfold pyDown; rw [show (i - j).toNat = 0 by omega]; rfl
theorem pyDown_cons {i j : Int} (h : j < i) : pyDown i j = i :: pyDown (i - 1) j := by
  unfold pyDown
  rw [show (i - j).toNat = (i - 1 - j).toNat + 1 by omega, List.range_succ_eq_map, List.map_cons, List.map_map]
  congr 1
  · omega
  · refine List.map_congr_left fun a _ => ?_
    show i - ((a + 1 : Nat) : Int) = i - 1 - (a : Int)
    omega
structure Pr (p : Nat) : Prop where
  pr : IsP p
  odd : p % 2 = 1
  lt : p < 2 ^ 256
theorem Pr.ge {p : Nat} (h : Pr p) : 3 ≤ p := by have := h.pr.1; have := h.odd; omega
theorem Pr.pos {p : Nat} (h : Pr p) : (0 : Int) < (p : Int) := by have := h.ge; omega
theorem res_lt {p : Nat} (h : Pr p) {x : Int} (h0 : 0 ≤ x) (h1 : x < p) : x.natAbs < 2 ^ 256 := by have := h.lt; omega
theorem mul_res {p : Nat} (h : Pr p) {x y : Int} (h0 : 0 ≤ x) (h1 : x < p) (h2 : 0 ≤ y) (h3 : y < p) : CMulX x y := cmulx (res_lt h h0 h1) (res_lt h h2 h3) (by decide)

/-! ### powers -/
theorem pw_step {p : Nat} (h : Pr p) (k : Int × Int × Int → Res Int) (n : Nat) (r s : Int) (e : Nat) (r0 : 0 ≤ r) (r1 : r < p) (s0 : 0 ≤ s) (s1 : s < p) : m_power_w1 (p : Int) k (n + 1) (r, s, (e : Int)) = if e = 0 then k (r, s, 0) else m_power_w1 (p : Int) k n (if e % 2 = 1 then r * s % p else r, s * s % p, ((e / 2 : Nat) : Int)) := by
  have hp := h.pos
  have e2 : ((e / 2 : Nat) : Int) = (e : Int) / 2 ^ (1 : Int).toNat := by show _ = (e : Int) / 2; omega
  rw [m_power_w1]
  simp only [Res.bind_ok, cond_dec, bit1]
  by_cases he : e = 0
  · subst he; rfl
  · rw [if_pos (by omega), if_neg he]
    unfold m_power_k2
    simp only [Res.bind_ok, need_bind, Res.need_pos hp, Res.need_pos (mul_res h s0 s1 s0 s1), Res.need_pos (mul_res h r0 r1 s0 s1), e2]
    by_cases ho : e % 2 = 1
    · rw [if_pos (by omega), if_pos ho]
    · rw [if_neg (by omega), if_neg ho]
theorem pw_loop {p : Nat} (h : Pr p) (k : Int × Int × Int → Res Int) : ∀ (fuel : Nat) (r s : Int) (e : Nat), 0 ≤ r → r < p → 0 ≤ s → s < p → e < fuel → ∃ s', m_power_w1 (p : Int) k fuel (r, s, (e : Int)) = k (r * s ^ e % p, s', 0) := by
  have hp := h.pos
  intro fuel
  induction fuel with
  | zero => intro r s e _ _ _ _ he; omega
  | succ n ih =>
    intro r s e r0 r1 s0 s1 he
    rw [pw_step h k n r s e r0 r1 s0 s1]
    by_cases hz : e = 0
    · subst hz
      exact ⟨s, by rw [if_pos rfl, Int.pow_zero, Int.mul_one, Int.emod_eq_of_lt r0 r1]⟩
    · rw [if_neg hz]
      have t0 := Int.emod_nonneg (s * s) (show (p : Int) ≠ 0 by omega)
      have t1 := Int.emod_lt_of_pos (s * s) hp
      have u0 := Int.emod_nonneg (r * s) (show (p : Int) ≠ 0 by omega)
      have u1 := Int.emod_lt_of_pos (r * s) hp
      obtain ⟨s', q⟩ := ih (if e % 2 = 1 then r * s % p else r) (s * s % p) (e / 2) (by split <;> assumption) (by split <;> assumption) t0 t1 (by omega)
      refine ⟨s', ?_⟩
      rw [q]
      have a1 : (s * s % p) ^ (e / 2) % p = (s * s) ^ (e / 2) % p := em_pow (em_em _ _) _
      have a2 : s ^ e = s ^ (e % 2) * (s * s) ^ (e / 2) := by
        rw [← ipow2 s, ← Int.pow_mul, ← Int.pow_add, Nat.mod_add_div]
      congr 2
      rw [a2, ← Int.mul_assoc]
      refine em_mul ?_ a1
      rcases (by omega : e % 2 = 0 ∨ e % 2 = 1) with z | z
      · rw [z, if_neg (by decide), Int.pow_zero, Int.mul_one]
      · rw [z, if_pos rfl, Int.pow_one, em_em]
theorem power_ok {p : Nat} (h : Pr p) (a : Int) (e : Nat) : m_power a (e : Int) (p : Int) = .ok (a ^ e % p) := by
  have hp := h.pos
  have h3 := h.ge
  unfold m_power
  simp only [Res.bind_ok, Res.need_pos hp]
  obtain ⟨s', q⟩ := pw_loop h m_power_k3 ((e : Int).toNat + 1) (1 % p) (a % p) e (Int.emod_nonneg _ (by omega)) (Int.emod_lt_of_pos _ hp) (Int.emod_nonneg _ (by omega)) (Int.emod_lt_of_pos _ hp) (by omega)
  rw [q]
  show Res.ok _ = _
  congr 1
  rw [em_mul (em_em 1 p) (em_pow (em_em a p) e), Int.one_mul]
abbrev hf (p : Nat) : Nat := (p - 1) / 2
theorem class_ok {p : Nat} (h : Pr p) (a : Int) : m_square_class a (p : Int) = .ok (if a % p = 0 then 0 else if a ^ hf p % p = 1 then 1 else -1) := by
  have hp := h.pos
  have h3 := h.ge
  have e : ((p : Int) - 1) / 2 = ((hf p : Nat) : Int) := by unfold hf; omega
  unfold m_square_class
  simp only [Res.bind_ok, Res.need_pos hp, e, power_ok h, cond_dec]
  by_cases h0 : a % p = 0
  · rw [if_pos h0, if_pos h0]
  · rw [if_neg h0, if_neg h0]
    by_cases h1 : a ^ hf p % p = 1
    · rw [if_pos h1, if_pos h1]
    · rw [if_neg h1, if_neg h1]
theorem bits_pow (t : Nat) : Builtin.Int.intBits (2 ^ t : Int) = t + 1 := by
  have hp : (0 : Int) < 2 ^ t := Int.pow_pos (by decide)
  unfold Builtin.Int.intBits
  rw [if_neg (by simp; omega)]
  have : (2 ^ t : Int).natAbs = 2 ^ t := by rw [Int.natAbs_pow]; rfl
  rw [this, Nat.log2_two_pow]
theorem split_ok {n o t : Nat} (e : n = (2 * o + 1) * 2 ^ t) : m_split_twos (n : Int) = .ok (T2.mk ((2 * o + 1 : Nat) : Int) (t : Int)) := by
  have hp := Nat.two_pow_pos t
  have hn : 0 < n := by rw [e]; exact Nat.mul_pos (by omega) hp
  have ea : Builtin.bitAnd (n : Int) (-(n : Int)) = 2 ^ t := by
    have e1 : -(n : Int) = Builtin.bitNot ((n : Int) - 1) := by unfold Builtin.bitNot; omega
    rw [e1, PyProof.Rows.bitAnd_not, PyProof.Rows.bitAnd_pp (by omega) (by omega), show ((n : Int)).toNat = n by omega, show ((n : Int) - 1).toNat = n - 1 by omega, e, low_and, ← PySem.W.kbt_cast t, Int.natCast_mul, Int.natCast_mul]
    generalize ((2 ^ t : Nat) : Int) = q
    push_cast
    grind
  have ed : (n : Int) / 2 ^ t = ((2 * o + 1 : Nat) : Int) := by
    rw [e, ← PySem.W.kbt_cast t, ← Int.natCast_ediv, Nat.mul_div_cancel _ hp]
  unfold m_split_twos
  simp only [Res.bind_ok, ea, bits_pow, need_bind]
  have et : (((t + 1 : Nat) : Int) - 1) = (t : Int) := by omega
  rw [et, Res.need_pos (by omega), show ((t : Int)).toNat = t by omega, ed]
/-! ### a number that is no square -/
theorem ns_loop {p : Nat} (h : Pr p) {z0 : Nat} (hz : z0 < p) (hz1 : (z0 : Int) ^ hf p % p ≠ 1) (k : Int → Res Int) : ∀ (fuel n : Nat), 1 ≤ n → n ≤ z0 → z0 < n + fuel → ∃ z : Int, m_u_non_square_w1 (p : Int) k fuel (n : Int) = k z ∧ z ^ hf p % p = p - 1 := by
  intro fuel
  induction fuel with
  | zero => intro n h1 h2 h3; omega
  | succ f ih =>
    intro n h1 h2 h3
    have hp := h.pos
    have hn0 : (n : Int) % p ≠ 0 := by rw [Int.emod_eq_of_lt (by omega) (by omega)]; omega
    rw [m_u_non_square_w1]
    simp only [Res.bind_ok, class_ok h, cond_not, cond_dec, if_neg hn0]
    by_cases hn : (n : Int) ^ hf p % p = 1
    · rw [if_pos hn, if_neg (by decide)]
      have hne : n ≠ z0 := fun e => hz1 (by rw [← e]; exact hn)
      exact ih (n + 1) (by omega) (by omega) (by omega)
    · rw [if_neg hn, if_pos rfl]
      refine ⟨_, rfl, ?_⟩
      exact (half_pow h.pr h.odd (fun d => hn0 (Int.emod_eq_zero_of_dvd d))).resolve_left hn
theorem ns_ok {p : Nat} (h : Pr p) : ∃ z : Int, m_u_non_square (p : Int) = .ok z ∧ z ^ hf p % p = p - 1 := by
  have h3 := h.ge
  have ho := h.odd
  obtain ⟨z0, z1, z2, z3⟩ := non_root h.pr (k := hf p) (by unfold hf; omega) (by unfold hf; omega)
  have hz : 2 ≤ z0 := by
    rcases (by omega : z0 = 1 ∨ 2 ≤ z0) with rfl | q
    · exact absurd (by rw [show ((1 : Nat) : Int) = 1 from rfl, Int.one_pow, Int.emod_eq_of_lt (by decide) (by omega)]) z3
    · exact q
  obtain ⟨z, q1, q2⟩ := ns_loop h z2 z3 m_u_non_square_k2 ((p : Int).toNat + 1) 2 (by decide) hz (by omega)
  refine ⟨z, ?_, q2⟩
  unfold m_u_non_square
  simp only [Res.bind_ok]
  exact q1
/-! ### the root -/
theorem pow_dbl (x : Int) (k : Nat) : x ^ 2 ^ (k + 1) = (x * x) ^ 2 ^ k := by
  rw [Nat.pow_succ, Nat.mul_comm, Int.pow_mul, ipow2]
theorem ts_loop {p : Nat} (h : Pr p) (a : Int) (k : Int × Int × Int → Res Int) : ∀ (L : Nat) (root rest helper : Int), L ≤ 300 → 0 ≤ root → root < p → 0 ≤ rest → rest < p → 0 ≤ helper → helper < p → root * root % p = a * rest % p → rest ^ 2 ^ L % p = 1 → helper ^ 2 ^ L % p = p - 1 →
    ∃ r rest' helper', m_u_root_of_square_l2 (p : Int) k (pyDown ((L : Int) - 1) (-1)) (root, rest, helper) = k (r, rest', helper') ∧ 0 ≤ r ∧ r < p ∧ r * r % p = a % p := by
  have hp := h.pos
  have h3 := h.ge
  intro L
  induction L with
  | zero =>
    intro root rest helper _ r0 r1 s0 s1 g0 g1 i1 i2 i3
    refine ⟨root, rest, helper, ?_, r0, r1, ?_⟩
    · rw [pyDown_nil (by omega)]; rfl
    · rw [Nat.pow_zero, Int.pow_one] at i2
      rw [i1]
      have o : (1 : Int) % p = 1 := Int.emod_eq_of_lt (by decide) (by omega)
      rw [em_mul (u := a) (v := 1) rfl (by rw [i2, o]), Int.mul_one]
  | succ L ih =>
    intro root rest helper hL r0 r1 s0 s1 g0 g1 i1 i2 i3
    have el : (((L + 1 : Nat) : Int) - 1) = (L : Int) := by omega
    rw [el, pyDown_cons (by omega), m_u_root_of_square_l2]
    have hs : CShl 1 (L : Int) := ⟨by omega, by
      have : Builtin.Int.intBits 1 = 1 := by decide +kernel
      rw [this]; omega⟩
    have e1 : (1 : Int) * 2 ^ (L : Int).toNat = ((2 ^ L : Nat) : Int) := by rw [Int.one_mul, show ((L : Int)).toNat = L by omega, PySem.W.kbt_cast]
    have G0 := fun x : Int => Int.emod_nonneg x (show (p : Int) ≠ 0 by omega)
    have G1 := fun x : Int => Int.emod_lt_of_pos x hp
    have j3 : (helper * helper % p) ^ 2 ^ L % p = p - 1 := by rw [em_pow (em_em _ _), ← pow_dbl]; exact i3
    have sq : rest ^ 2 ^ L * rest ^ 2 ^ L % p = 1 := by rw [← Int.pow_add, ← Nat.two_mul, Nat.mul_comm, ← Nat.pow_succ]; exact i2
    simp only [Res.bind_ok, need_bind, Res.need_pos hs, e1, power_ok h, cond_not, cond_dec]
    unfold m_u_root_of_square_k3
    by_cases hc : rest ^ 2 ^ L % p = 1
    · rw [if_pos hc]
      simp only [Res.bind_ok, need_bind, Res.need_pos (mul_res h g0 g1 g0 g1), Res.need_pos hp]
      exact ih root rest (helper * helper % p) (by omega) r0 r1 s0 s1 (G0 _) (G1 _) i1 hc j3
    · rw [if_neg hc]
      have hm := (sq_one h.pr sq).resolve_left hc
      have big : CMulX (rest * helper) helper := cmulx (a := 512) (b := 256) (by rw [Int.natAbs_mul]; exact pow_add_lt (res_lt h s0 s1) (res_lt h g0 g1)) (res_lt h g0 g1) (by decide)
      simp only [Res.bind_ok, need_bind, Res.need_pos (mul_res h g0 g1 g0 g1), Res.need_pos (mul_res h r0 r1 g0 g1), Res.need_pos (mul_res h s0 s1 g0 g1), Res.need_pos big, Res.need_pos hp]
      refine ih (root * helper % p) (rest * helper * helper % p) (helper * helper % p) (by omega) (G0 _) (G1 _) (G0 _) (G1 _) (G0 _) (G1 _) ?_ ?_ j3
      · have q1 : root * helper % p * (root * helper % p) % p = (root * root) * (helper * helper) % p := by
          rw [em_mul (em_em (root * helper) p) (em_em (root * helper) p)]; congr 1; grind
        have q2 : a * (rest * helper * helper % p) % p = (a * rest) * (helper * helper) % p := by
          rw [em_mul (u := a) (v := rest * helper * helper) rfl (em_em _ _)]; congr 1; grind
        rw [q1, q2]
        exact em_mul i1 rfl
      · rw [em_pow (em_em _ _), show rest * helper * helper = rest * (helper * helper) by grind, Int.mul_pow, ← pow_dbl, em_mul (hm.trans (i3.symm)) rfl]
        exact m1_sq h.pr i3
theorem root_ok {p : Nat} (h : Pr p) {a : Int} (ha : a ^ hf p % p = 1) : ∃ r, m_u_root_of_square a (p : Int) = .ok r ∧ 0 ≤ r ∧ r < p ∧ r * r % p = a % p := by
  have hp := h.pos
  have h3 := h.ge
  have ho := h.odd
  have hlt := h.lt
  obtain ⟨o, t, e⟩ := odd_part (p - 1) (by omega)
  have t0 : 1 ≤ t := by
    rcases Nat.eq_zero_or_pos t with z | z
    · subst z; rw [Nat.pow_zero] at e; omega
    · exact z
  have tl : t ≤ 256 := by
    refine Nat.le_of_not_lt fun z => ?_
    have : 2 ^ 256 ≤ 2 ^ t := Nat.pow_le_pow_right (by decide) (by omega)
    have := Nat.le_mul_of_pos_left (2 ^ t) (show 0 < 2 * o + 1 by omega)
    omega
  have eh : hf p = (2 * o + 1) * 2 ^ (t - 1) := by
    have : 2 ^ t = 2 ^ (t - 1) * 2 := by rw [← Nat.pow_succ]; congr 1; omega
    unfold hf
    rw [e, this, ← Nat.mul_assoc, Nat.mul_div_cancel _ (by decide)]
  have sp := split_ok e
  rw [show ((p - 1 : Nat) : Int) = (p : Int) - 1 by omega] at sp
  have o2 : (((2 * o + 1 : Nat) : Int) + 1) / 2 = ((o + 1 : Nat) : Int) := by omega
  have G0 := fun x : Int => Int.emod_nonneg x (show (p : Int) ≠ 0 by omega)
  have G1 := fun x : Int => Int.emod_lt_of_pos x hp
  have i1 : a ^ (o + 1) % p * (a ^ (o + 1) % p) % p = a * (a ^ (2 * o + 1) % p) % p := by
    rw [em_mul (em_em (a ^ (o + 1)) p) (em_em (a ^ (o + 1)) p), em_mul (u := a) (v := a ^ (2 * o + 1)) rfl (em_em _ _), ← Int.pow_add, Int.mul_comm, ← Int.pow_succ]
    congr 2; omega
  have i2 : (a ^ (2 * o + 1) % p) ^ 2 ^ (t - 1) % p = 1 := by
    rw [em_pow (em_em _ _), ← Int.pow_mul, ← eh]; exact ha
  unfold m_u_root_of_square
  simp only [Res.bind_ok, need_bind, sp, o2, power_ok h, cond_dec]
  by_cases ht : (t : Int) < 2
  · rw [if_pos ht]
    refine ⟨_, rfl, G0 _, G1 _, ?_⟩
    rw [i1]
    have : t = 1 := by omega
    subst this
    rw [Nat.sub_self, Nat.pow_zero, Int.pow_one] at i2
    have oo : (1 : Int) % p = 1 := Int.emod_eq_of_lt (by decide) (by omega)
    rw [em_mul (u := a) (v := 1) rfl (i2.trans oo.symm), Int.mul_one]
  · rw [if_neg ht]
    obtain ⟨z, z1, z2⟩ := ns_ok h
    have i3 : (z ^ (2 * o + 1) % p) ^ 2 ^ (t - 1) % p = p - 1 := by
      rw [em_pow (em_em _ _), ← Int.pow_mul, ← eh]; exact z2
    simp only [z1, Res.bind_ok, power_ok h]
    rw [Res.need_pos ⟨⟨by omega, by omega⟩, ⟨by omega, by omega⟩⟩]
    obtain ⟨r, x, y, q1, q2, q3, q4⟩ := ts_loop h a m_u_root_of_square_k4 (t - 1) _ _ _ (by omega) (G0 _) (G1 _) (G0 _) (G1 _) (G0 _) (G1 _) i1 i2 i3
    rw [show (((t - 1 : Nat) : Int) - 1) = (t : Int) - 2 by omega] at q1
    exact ⟨r, by rw [q1]; rfl, q2, q3, q4⟩
theorem no_zero {p : Nat} (h : Pr p) {r a : Int} (hr : r * r % p = a % p) (ha : a % p ≠ 0) : r ≠ 0 := fun z => by
  subst z
  rw [Int.zero_mul, Int.zero_emod] at hr
  exact ha hr.symm
theorem sroot_ok {p : Nat} (h : Pr p) (a : Int) : m_square_root a (p : Int) = .ok (some 0) ∧ a % p = 0 ∨ a % p ≠ 0 ∧ a ^ hf p % p = p - 1 ∧ m_square_root a (p : Int) = .ok none ∨
    a % p ≠ 0 ∧ a ^ hf p % p = 1 ∧ ∃ r, m_square_root a (p : Int) = .ok (some r) ∧ 0 < r ∧ 2 * r < p ∧ r * r % p = a % p := by
  have hp := h.pos
  have h3 := h.ge
  have ho := h.odd
  unfold m_square_root
  simp only [Res.bind_ok, class_ok h, cond_dec]
  by_cases h0 : a % p = 0
  · rw [if_pos h0, if_neg (by decide), if_pos rfl]
    exact .inl ⟨rfl, h0⟩
  · rw [if_neg h0]
    have hd : ¬ (p : Int) ∣ a := fun d => h0 (Int.emod_eq_zero_of_dvd d)
    rcases half_pow h.pr h.odd hd with q | q
    · have q' : a ^ hf p % p = 1 := q
      obtain ⟨r, r1, r2, r3, r4⟩ := root_ok h q'
      have rz := no_zero h r4 h0
      rw [if_pos q', if_neg (by decide), if_neg (by decide)]
      simp only [r1, Res.bind_ok]
      refine .inr (.inr ⟨h0, q', min r (p - r), rfl, by omega, by omega, ?_⟩)
      rcases Int.le_total r (p - r) with z | z
      · rw [Int.min_eq_left z]; exact r4
      · rw [Int.min_eq_right z, ← r4]
        rw [show ((p : Int) - r) * (p - r) = r * r + p * (p - 2 * r) by grind, Int.add_mul_emod_self_left]
    · have q' : a ^ hf p % p = p - 1 := q
      have hne : ¬ a ^ hf p % p = 1 := by rw [q']; omega
      rw [if_neg hne, if_pos rfl]
      exact .inr (.inl ⟨h0, q', rfl⟩)

/-! ### the primes -/
theorem lt4 : 4000000 < 2 ^ 256 := by decide +kernel
theorem lt1 : 1000000 < 2 ^ 256 := by decide +kernel
theorem lt60 : 4000000 < 2 ^ 60 := by decide +kernel
def tp (v : Nat) : Bool := decide (2 ≤ v) && decide (v < 1000000) && decide (v % 2 = 1) && (List.range 1000).all fun d => decide (d < 2) || decide (v < d * d) || !decide (v % d = 0)
theorem tp_ok {v : Nat} (h : tp v = true) : Pr v := by
  simp only [tp, Bool.and_eq_true, decide_eq_true_eq] at h
  obtain ⟨⟨⟨h1, h2⟩, h3⟩, h4⟩ := h
  refine ⟨small_prime h1 fun d d1 d2 d3 => ?_, h3, Nat.lt_trans h2 lt1⟩
  have hd : d < 1000 := by
    refine Nat.lt_of_not_le fun z => ?_
    have := Nat.mul_le_mul z z
    omega
  have := List.all_eq_true.mp h4 d (List.mem_range.mpr hd)
  have e : v % d = 0 := Nat.mod_eq_zero_of_dvd d3
  simp only [e, Bool.or_eq_true, decide_eq_true_eq, decide_true, Bool.not_true] at this
  rcases this with (z | z) | z
  · omega
  · omega
  · cases z
theorem ip_loop (n : Nat) (h2 : 2 ≤ n) (ho : n % 2 = 1) (hn : n < 2 ^ 60) (k : Int → Res Bool) (hk : ∀ d, k d = .ok true) : ∀ (ks : List Int) (d : Nat), d % 2 = 1 → 3 ≤ d → d + 2 * ks.length < 4000 → n < (d + 2 * ks.length) * (d + 2 * ks.length) → (∀ q, 2 ≤ q → q < d → ¬ q ∣ n) → ∃ b, m_u_law_is_prime_l2 (n : Int) k ks (d : Int) = .ok b ∧ (b = true → IsP n) := by
  intro ks
  induction ks with
  | nil =>
    intro d d1 d2 d3 d4 d5
    refine ⟨true, hk _, fun _ => small_prime h2 fun q q1 q2 => d5 q q1 (Nat.lt_of_not_le fun z => ?_)⟩
    have := Nat.mul_le_mul z z
    simp at d4; omega
  | cons x r ih =>
    intro d d1 d2 d3 d4 d5
    rw [List.length_cons] at d3 d4
    rw [m_u_law_is_prime_l2]
    have hm : CMulX (d : Int) (d : Int) := cmulx (a := 20) (b := 20) (by omega) (by omega) (by decide)
    simp only [Res.bind_ok, need_bind, cond_dec, Res.need_pos hm, Res.need_pos (show (0 : Int) < (d : Int) by omega)]
    by_cases c1 : (n : Int) < (d : Int) * d
    · rw [if_pos c1]
      have c1 : n < d * d := by
        have e : ((d * d : Nat) : Int) = (d : Int) * d := Int.natCast_mul ..
        omega
      refine ⟨true, rfl, fun _ => small_prime h2 fun q q1 q2 => d5 q q1 (Nat.lt_of_not_le fun z => ?_)⟩
      have := Nat.mul_le_mul z z
      omega
    · rw [if_neg c1]
      by_cases c2 : (n : Int) % (d : Int) = 0
      · rw [if_pos c2]; exact ⟨false, rfl, fun z => by cases z⟩
      · rw [if_neg c2]
        refine ih (d + 2) (by omega) (by omega) (by omega) (by rw [show d + 2 + 2 * r.length = d + 2 * (r.length + 1) by omega]; exact d4) fun q q1 q2 q3 => ?_
        by_cases e1 : q < d
        · exact d5 q q1 e1 q3
        · by_cases e2 : q = d
          · subst e2
            exact c2 (by rw [← Int.natCast_emod, Nat.mod_eq_zero_of_dvd q3]; rfl)
          · have : q % 2 = 0 := by omega
            have : 2 ∣ n := Nat.dvd_trans (Nat.dvd_of_mod_eq_zero this) q3
            have := Nat.mod_eq_zero_of_dvd this
            omega
theorem ip_ok (n : Nat) (h3 : 3 ≤ n) (hn : n < 4000000) : ∃ b, m_u_law_is_prime (n : Int) = .ok b ∧ (b = true → Pr n) := by
  have hr : okRange (1024 : Int) := ⟨by decide, by decide⟩
  have hl : (pyRange 0 1024).length = 1024 := by rw [pyRange_len]; rfl
  unfold m_u_law_is_prime
  simp only [Res.bind_ok, need_bind, Res.need_pos hr]
  generalize pyRange 0 1024 = ks at *
  by_cases ho : n % 2 = 1
  · have a1 : decide ((n : Int) % 2 = 0) = false := decide_eq_false (by omega)
    have a2 : decide ((n : Int) < 3) = false := decide_eq_false (by omega)
    rw [a1, a2, cond_false, Res.bind_ok, cond_false]
    obtain ⟨b, q1, q2⟩ := ip_loop n (by omega) ho (Nat.lt_trans hn lt60) m_u_law_is_prime_k5 (fun _ => rfl) ks 3 (by decide) (by decide) (by rw [hl]; omega) (by rw [hl]; omega) (fun q q1 q2 q3 => by
      have : q = 2 := by omega
      subst this
      have := Nat.mod_eq_zero_of_dvd q3
      omega)
    rw [show ((3 : Nat) : Int) = 3 from rfl] at q1
    exact ⟨b, q1, fun z => ⟨q2 z, ho, Nat.lt_trans hn lt4⟩⟩
  · rw [decide_eq_true (show (n : Int) % 2 = 0 by omega)]
    simp only [cond_true, Res.bind_ok]
    refine ⟨_, rfl, fun z => ?_⟩
    have := of_decide_eq_true z
    omega
theorem np_loop (k : Int → Res Int) (hk : ∀ d, k d = .ok 65537) : ∀ (ks : List Int) (n : Nat), 5 ≤ n → n + ks.length < 4000000 → ∃ p : Nat, m_u_law_prime_l3 k ks (n : Int) = .ok (p : Int) ∧ Pr p ∧ 5 ≤ p := by
  intro ks
  induction ks with
  | nil => intro n h1 h2; exact ⟨65537, hk _, tp_ok (by decide +kernel), by decide⟩
  | cons x r ih =>
    intro n h1 h2
    rw [List.length_cons] at h2
    rw [m_u_law_prime_l3]
    obtain ⟨b, q1, q2⟩ := ip_ok n (by omega) (by omega)
    simp only [Res.bind_ok, q1]
    cases b with
    | true => exact ⟨n, rfl, q2 rfl, h1⟩
    | false => exact ih (n + 1) (by omega) (by omega)
theorem list1 {z : Int} (h0 : 0 ≤ z) (h1 : z < 12) : ∃ v : Int, idx ([5, 7, 11, 13, 17, 19, 23, 29, 31, 37, 41, 43] : List Int) z = .ok v ∧ 5 ≤ v ∧ tp v.toNat = true := by
  rcases (by omega : z = 0 ∨ z = 1 ∨ z = 2 ∨ z = 3 ∨ z = 4 ∨ z = 5 ∨ z = 6 ∨ z = 7 ∨ z = 8 ∨ z = 9 ∨ z = 10 ∨ z = 11) with rfl | rfl | rfl | rfl | rfl | rfl | rfl | rfl | rfl | rfl | rfl | rfl <;> exact ⟨_, rfl, by decide, by decide +kernel⟩
theorem list2 {z : Int} (h0 : 0 ≤ z) (h1 : z < 12) : ∃ v : Int, idx ([97, 193, 257, 7681, 12289, 65537, 786433, 65521, 8191, 131071, 524287, 241] : List Int) z = .ok v ∧ 5 ≤ v ∧ tp v.toNat = true := by
  rcases (by omega : z = 0 ∨ z = 1 ∨ z = 2 ∨ z = 3 ∨ z = 4 ∨ z = 5 ∨ z = 6 ∨ z = 7 ∨ z = 8 ∨ z = 9 ∨ z = 10 ∨ z = 11) with rfl | rfl | rfl | rfl | rfl | rfl | rfl | rfl | rfl | rfl | rfl | rfl <;> exact ⟨_, rfl, by decide, by decide +kernel⟩
theorem prime_ok (c : Int) {least : Nat} (h3 : 5 ≤ least) (h4 : least ≤ 100) : ∃ p : Nat, m_u_law_prime c (least : Int) = .ok (p : Int) ∧ Pr p ∧ 5 ≤ p := by
  have z0 := Int.emod_nonneg ((c.natAbs : Int) / 5) (show (12 : Int) ≠ 0 by decide)
  have z1 := Int.emod_lt_of_pos ((c.natAbs : Int) / 5) (show (0 : Int) < 12 by decide)
  have hr : okRange (400 : Int) := ⟨by decide, by decide⟩
  have hl : (pyRange 0 400).length = 400 := by rw [pyRange_len]; rfl
  unfold m_u_law_prime
  simp only [Res.bind_ok, need_bind, cond_dec, Res.need_pos hr]
  by_cases c1 : (c.natAbs : Int) % 5 = 1
  · rw [if_pos c1]
    obtain ⟨v, v1, v2, v3⟩ := list1 z0 z1
    exact ⟨v.toNat, by rw [v1, Int.toNat_of_nonneg (by omega)], tp_ok v3, by omega⟩
  rw [if_neg c1]
  by_cases c2 : (c.natAbs : Int) % 5 = 2
  · rw [if_pos c2]
    obtain ⟨v, v1, v2, v3⟩ := list2 z0 z1
    exact ⟨v.toNat, by rw [v1, Int.toNat_of_nonneg (by omega)], tp_ok v3, by omega⟩
  rw [if_neg c2]
  have ht : ∃ v : Int, idx ([60, 1000, 1000000] : List Int) ((c.natAbs : Int) / 15 % 3) = .ok v ∧ 0 < v ∧ v ≤ 1000000 := by
    have h0 := Int.emod_nonneg ((c.natAbs : Int) / 15) (show (3 : Int) ≠ 0 by decide)
    have h1 := Int.emod_lt_of_pos ((c.natAbs : Int) / 15) (show (0 : Int) < 3 by decide)
    generalize (c.natAbs : Int) / 15 % 3 = z at *
    rcases (by omega : z = 0 ∨ z = 1 ∨ z = 2) with rfl | rfl | rfl <;> exact ⟨_, rfl, by decide, by decide⟩
  obtain ⟨v, v1, v2, v3⟩ := ht
  simp only [v1, Res.bind_ok, Res.need_pos v2]
  generalize pyRange 0 400 = ks at *
  have w0 := Int.emod_nonneg ((c.natAbs : Int) / 5) (show v ≠ 0 by omega)
  have w1 := Int.emod_lt_of_pos ((c.natAbs : Int) / 5) v2
  generalize (c.natAbs : Int) / 5 % v = w at *
  obtain ⟨m, hm⟩ := Int.eq_ofNat_of_zero_le w0
  subst hm
  have q := np_loop m_u_law_prime_k5 (fun _ => rfl) ks (least + m) (by omega) (by omega)
  rw [Int.natCast_add] at q
  exact q
theorem nm {x y z : Int} {α : Type} {f : Int → Res α} (a b : Nat) (ha : x.natAbs < 2 ^ a) (hb : y.natAbs < 2 ^ b) (h : a + b ≤ 134217728) (e : x * y = z) : Res.need (CMulX x y) (f (x * y)) = f z := by
  rw [Res.need_pos (cmulx ha hb h), e]

theorem npb_loop (k : Int → Res Int) (hk : ∀ d, k d = .ok 65537) : ∀ (ks : List Int) (n : Nat), 5 ≤ n → n + ks.length < 1015000 → ∃ p : Nat, m_u_law_prime_l3 k ks (n : Int) = .ok (p : Int) ∧ Pr p ∧ 5 ≤ p ∧ p < 1015808 := by
  intro ks
  induction ks with
  | nil => intro n h1 h2; exact ⟨65537, hk _, tp_ok (by decide +kernel), by decide, by decide⟩
  | cons x r ih =>
    intro n h1 h2
    rw [List.length_cons] at h2
    rw [m_u_law_prime_l3]
    obtain ⟨b, q1, q2⟩ := ip_ok n (by omega) (by omega)
    simp only [Res.bind_ok, q1]
    cases b with
    | true => exact ⟨n, rfl, q2 rfl, h1, by omega⟩
    | false => exact ih (n + 1) (by omega) (by omega)
theorem tp_lt {v : Nat} (h : tp v = true) : v < 1000000 := by
  unfold tp at h
  simp only [Bool.and_eq_true, decide_eq_true_eq] at h
  exact h.1.1.2
theorem prime_okb (c : Int) {least : Nat} (h3 : 5 ≤ least) (h4 : least ≤ 100) : ∃ p : Nat, m_u_law_prime c (least : Int) = .ok (p : Int) ∧ Pr p ∧ 5 ≤ p ∧ p < 1015808 := by
  have z0 := Int.emod_nonneg ((c.natAbs : Int) / 5) (show (12 : Int) ≠ 0 by decide)
  have z1 := Int.emod_lt_of_pos ((c.natAbs : Int) / 5) (show (0 : Int) < 12 by decide)
  have hr : okRange (400 : Int) := ⟨by decide, by decide⟩
  have hl : (pyRange 0 400).length = 400 := by rw [pyRange_len]; rfl
  unfold m_u_law_prime
  simp only [Res.bind_ok, need_bind, cond_dec, Res.need_pos hr]
  by_cases c1 : (c.natAbs : Int) % 5 = 1
  · rw [if_pos c1]
    obtain ⟨v, v1, v2, v3⟩ := list1 z0 z1
    exact ⟨v.toNat, by rw [v1, Int.toNat_of_nonneg (by omega)], tp_ok v3, by omega, by have := tp_lt v3; omega⟩
  rw [if_neg c1]
  by_cases c2 : (c.natAbs : Int) % 5 = 2
  · rw [if_pos c2]
    obtain ⟨v, v1, v2, v3⟩ := list2 z0 z1
    exact ⟨v.toNat, by rw [v1, Int.toNat_of_nonneg (by omega)], tp_ok v3, by omega, by have := tp_lt v3; omega⟩
  rw [if_neg c2]
  have ht : ∃ v : Int, idx ([60, 1000, 1000000] : List Int) ((c.natAbs : Int) / 15 % 3) = .ok v ∧ 0 < v ∧ v ≤ 1000000 := by
    have h0 := Int.emod_nonneg ((c.natAbs : Int) / 15) (show (3 : Int) ≠ 0 by decide)
    have h1 := Int.emod_lt_of_pos ((c.natAbs : Int) / 15) (show (0 : Int) < 3 by decide)
    generalize (c.natAbs : Int) / 15 % 3 = z at *
    rcases (by omega : z = 0 ∨ z = 1 ∨ z = 2) with rfl | rfl | rfl <;> exact ⟨_, rfl, by decide, by decide⟩
  obtain ⟨v, v1, v2, v3⟩ := ht
  simp only [v1, Res.bind_ok, Res.need_pos v2]
  generalize pyRange 0 400 = ks at *
  have w0 := Int.emod_nonneg ((c.natAbs : Int) / 5) (show v ≠ 0 by omega)
  have w1 := Int.emod_lt_of_pos ((c.natAbs : Int) / 5) v2
  generalize (c.natAbs : Int) / 5 % v = w at *
  obtain ⟨m, hm⟩ := Int.eq_ofNat_of_zero_le w0
  subst hm
  have q := npb_loop m_u_law_prime_k5 (fun _ => rfl) ks (least + m) (by omega) (by omega)
  rw [Int.natCast_add] at q
  exact q

/-! ### the five great primes -/
abbrev g0 : Nat := 57896044618658097711785492504343953926634992332820282019728792003956564819949
abbrev g1 : Nat := 115792089237316195423570985008687907853269984665640564039457584007908834671663
abbrev g2 : Nat := 2305843009213693951
abbrev g3 : Nat := 2147483647
abbrev g4 : Nat := 115792089210356248762697446949407573530086143415290314195533631308867097853951
theorem great_get {z : Int} (h0 : 0 ≤ z) (h1 : z < 5) : ∃ p : Nat, idx ([(g0 : Int), g1, g2, g3, g4] : List Int) z = .ok (p : Int) ∧ Pr p ∧ 5 ≤ p := by
  rcases (by omega : z = 0 ∨ z = 1 ∨ z = 2 ∨ z = 3 ∨ z = 4) with rfl | rfl | rfl | rfl | rfl
  · exact ⟨g0, rfl, ⟨pr_57896044618658097711785492504343953926634992332820282019728792003956564819949, by decide +kernel, by decide +kernel⟩, by decide +kernel⟩
  · exact ⟨g1, rfl, ⟨pr_115792089237316195423570985008687907853269984665640564039457584007908834671663, by decide +kernel, by decide +kernel⟩, by decide +kernel⟩
  · exact ⟨g2, rfl, ⟨prime_m61, by decide +kernel, by decide +kernel⟩, by decide +kernel⟩
  · exact ⟨g3, rfl, ⟨prime_m31, by decide +kernel, by decide +kernel⟩, by decide +kernel⟩
  · exact ⟨g4, rfl, ⟨pr_115792089210356248762697446949407573530086143415290314195533631308867097853951, by decide +kernel, by decide +kernel⟩, by decide +kernel⟩
/-! ### powers and inverses, the law's own -/
theorem Pr.pb {p : Nat} (h : Pr p) : Pb p := ⟨by have := h.ge; omega, h.lt⟩
theorem lpw_loop {p : Nat} (h : Pr p) (k : Int × Int × Int → Res Int) : ∀ (ks : List Int) (v s : Int) (e : Nat), 0 ≤ v → v < p → 0 ≤ s → s < p → e < 2 ^ ks.length → ∃ e' s', m_u_law_power_l1 (p : Int) k ks ((e : Int), v, s) = k (e', v * s ^ e % p, s') := by
  have hp := h.pos
  intro ks
  induction ks with
  | nil =>
    intro v s e v0 v1 s0 s1 he
    have : e = 0 := by simpa using he
    subst this
    exact ⟨0, s, by rw [m_u_law_power_l1, Int.pow_zero, Int.mul_one, Int.emod_eq_of_lt v0 v1]; rfl⟩
  | cons x r ih =>
    intro v s e v0 v1 s0 s1 he
    rw [List.length_cons, Nat.pow_succ] at he
    rw [m_u_law_power_l1]
    have e2 : ((e : Nat) : Int) / 2 = ((e / 2 : Nat) : Int) := by omega
    have t0 := Int.emod_nonneg (s * s) (show (p : Int) ≠ 0 by omega)
    have t1 := Int.emod_lt_of_pos (s * s) hp
    have u0 := Int.emod_nonneg (v * s) (show (p : Int) ≠ 0 by omega)
    have u1 := Int.emod_lt_of_pos (v * s) hp
    have a1 : (s * s % p) ^ (e / 2) % p = (s * s) ^ (e / 2) % p := em_pow (em_em _ _) _
    have a2 : s ^ e = s ^ (e % 2) * (s * s) ^ (e / 2) := by
      rw [← ipow2 s, ← Int.pow_mul, ← Int.pow_add, Nat.mod_add_div]
    unfold m_u_law_power_k3
    simp only [Res.bind_ok, need_bind, cond_dec, Res.need_pos (mul_res h s0 s1 s0 s1), Res.need_pos (mul_res h v0 v1 s0 s1), Res.need_pos hp, e2]
    by_cases hz : (e : Int) = 0
    · rw [if_pos hz]
      have : e = 0 := by omega
      subst this
      exact ⟨0, s, by rw [Int.pow_zero, Int.mul_one, Int.emod_eq_of_lt v0 v1]; rfl⟩
    · rw [if_neg hz]
      by_cases ho : (e : Int) % 2 = 1
      · rw [if_pos ho]
        obtain ⟨e', s', q⟩ := ih (v * s % p) (s * s % p) (e / 2) u0 u1 t0 t1 (by omega)
        refine ⟨e', s', ?_⟩
        rw [q]
        congr 2
        rw [em_mul (em_em _ _) a1, a2, show e % 2 = 1 by omega, Int.pow_one, ← Int.mul_assoc]
      · rw [if_neg ho]
        obtain ⟨e', s', q⟩ := ih v (s * s % p) (e / 2) v0 v1 t0 t1 (by omega)
        refine ⟨e', s', ?_⟩
        rw [q]
        congr 2
        rw [em_mul rfl a1, a2, show e % 2 = 0 by omega, Int.pow_zero, Int.one_mul]
theorem lpower_ok {p : Nat} (h : Pr p) (a : Int) (e : Nat) (he : e < 2 ^ 256) : m_u_law_power a (e : Int) (p : Int) = .ok (a ^ e % p) := by
  have hp := h.pos
  have h3 := h.ge
  have hr : okRange (260 : Int) := ⟨by decide, by decide⟩
  have hl : (pyRange 0 260).length = 260 := by rw [pyRange_len]; rfl
  unfold m_u_law_power
  simp only [Res.bind_ok, need_bind, Res.need_pos hp, Res.need_pos hr]
  generalize pyRange 0 260 = ks at *
  obtain ⟨e', s', q⟩ := lpw_loop h m_u_law_power_k4 ks 1 (a % p) e (by decide) (by omega) (Int.emod_nonneg _ (by omega)) (Int.emod_lt_of_pos _ hp) (by rw [hl]; exact Nat.lt_trans he (by decide +kernel))
  rw [q]
  unfold m_u_law_power_k4
  rw [Int.one_mul, em_pow (em_em a p) e]
theorem linv_ok {p : Nat} (h : Pr p) (a : Int) : m_u_law_inverse a (p : Int) = .ok (a ^ (p - 2) % p) := by
  have h3 := h.ge
  have hlt := h.lt
  unfold m_u_law_inverse
  have e : (p : Int) - 2 = ((p - 2 : Nat) : Int) := by omega
  simp only [Res.bind_ok, e, lpower_ok h _ _ (show p - 2 < 2 ^ 256 by omega)]

/-! ### residues of cells -/
theorem residue_ok {m : Int} (hm : 0 < m) (c : Int) : ∃ r, m_u_law_residue c m = .ok r ∧ 0 ≤ r ∧ r < m := by
  unfold m_u_law_residue
  simp only [Res.bind_ok, need_bind, cond_dec, pow18, Res.need_pos hm]
  have F : ∀ x : Int, ∃ r, (Res.ok (x % m) : Res Int) = .ok r ∧ 0 ≤ r ∧ r < m := fun x => ⟨_, rfl, Int.emod_nonneg _ (by omega), Int.emod_lt_of_pos _ hm⟩
  by_cases h1 : 1000000000000000000 ≤ (c.natAbs : Int)
  · rw [if_pos h1]; exact F _
  rw [if_neg h1]
  by_cases h2 : (c.natAbs : Int) % 3 = 1
  · rw [if_pos h2]
    have z0 := Int.emod_nonneg ((c.natAbs : Int) / 3) (show (6 : Int) ≠ 0 by decide)
    have z1 := Int.emod_lt_of_pos ((c.natAbs : Int) / 3) (show (0 : Int) < 6 by decide)
    generalize (c.natAbs : Int) / 3 % 6 = z at *
    rcases (by omega : z = 0 ∨ z = 1 ∨ z = 2 ∨ z = 3 ∨ z = 4 ∨ z = 5) with rfl | rfl | rfl | rfl | rfl | rfl <;> exact F _
  · rw [if_neg h2, Res.need_pos (cmulx (a := 80) (b := 60) (by omega) (by omega) (by decide))]
    exact F _
/-! ### a curve through two points -/
def Rs (p : Nat) (x : Int) : Prop := 0 ≤ x ∧ x < p
def On (p : Nat) (a b x y : Int) : Prop := (y * y - x * x * x - a * x - b) % (p : Int) = 0
instance (p : Nat) (a b x y : Int) : Decidable (On p a b x y) := inferInstanceAs (Decidable (_ = _))
theorem Rs.bd {p : Nat} [P : Pb p] {x : Int} (h : Rs p x) : Bd x 256 := ⟨by
  have := P.lt; have := h.1; have := h.2; omega⟩
theorem rs_mod {p : Nat} [P : Pb p] (x : Int) : Rs p (x % p) := ⟨Int.emod_nonneg _ (by have := P.pos; omega), Int.emod_lt_of_pos _ (by have := P.pos; omega)⟩
theorem on_z {p : Nat} {a b x y : Int} : On p a b x y ↔ zm p y * zm p y = zm p x * zm p x * zm p x + zm p a * zm p x + zm p b := by
  unfold On
  rw [← zm_zero]
  simp only [zm_sub, zm_mul]
  constructor <;> intro h <;> grind
theorem linv_z {p : Nat} (h : Pr p) (x : Int) (hx : zm p x ≠ 0) : zm p (x ^ (p - 2) % p) * zm p x = 1 := by
  rw [zm_mod, zm_pow]; exact z_inv h.pr hx
theorem zm_ne_of {p : Nat} {x y : Int} (hx : Rs p x) (hy : Rs p y) (h : x ≠ y) : zm p (x - y) ≠ 0 := fun e => h (res_eq hx.1 hx.2 hy.1 hy.2 (by
  rw [zm_sub] at e; grind))
/-! ### the greatest common divisor -/
theorem cof (p q X Y V M : Nat) (hq : 0 < q) (h : Y * p + X * q ≤ M) (hV : V ≤ X + p / q * Y) : V * q + Y * (p % q) ≤ M ∧ V ≤ M ∧ p / q * Y ≤ M := by
  have e : q * (p / q) + p % q = p := Nat.div_add_mod p q
  generalize p / q = t at *
  generalize p % q = r at *
  subst e
  have a1 : V * q ≤ (X + t * Y) * q := Nat.mul_le_mul_right q hV
  have a2 : (X + t * Y) * q = X * q + Y * (q * t) := by rw [Nat.add_mul]; congr 1; ac_rfl
  have a3 : Y * (q * t + r) = Y * (q * t) + Y * r := Nat.mul_add ..
  have a4 : V ≤ V * q := Nat.le_mul_of_pos_right _ hq
  have a5 : Y * (q * t) = q * (t * Y) := by ac_rfl
  have a6 : t * Y ≤ q * (t * Y) := Nat.le_mul_of_pos_left _ hq
  omega
theorem bez_step (k : (T3 Int Int Int) × (T3 Int Int Int) → Res (T3 Int Int Int)) (n : Nat) (f s : T3 Int Int Int) : m_bezout_w1 k (n + 1) (f, s) = if s.a = 0 then k (f, s) else Res.need (CDivW f.a s.a) (Res.need (CMulX (f.a / s.a) s.a) (Res.need (CMulX (f.a / s.a) s.b) (Res.need (CMulX (f.a / s.a) s.c) (m_bezout_w1 k n (s, T3.mk (f.a - f.a / s.a * s.a) (f.b - f.a / s.a * s.b) (f.c - f.a / s.a * s.c)))))) := by
  rw [m_bezout_w1]
  simp only [Res.bind_ok, need_bind, cond_not, cond_dec]
theorem natAbs_sub_mul (u t v : Int) : (u - t * v).natAbs ≤ u.natAbs + t.natAbs * v.natAbs := by
  rw [← Int.natAbs_mul]; omega
theorem gcd_step {p q : Int} : Int.gcd q (p - p / q * q) = Int.gcd p q := by
  rw [Int.mul_comm, Int.gcd_sub_mul_left_right, Int.gcd_comm]
theorem bez_loop {a b : Int} {M B : Nat} (hM : M < 2 ^ B) (hB0 : 0 < B) (hB : B ≤ 8000) (k : (T3 Int Int Int) × (T3 Int Int Int) → Res (T3 Int Int Int)) : ∀ (fuel : Nat) (f s : T3 Int Int Int), 0 ≤ f.a → 0 ≤ s.a → s.a < fuel → f.a.natAbs ≤ M → s.a.natAbs ≤ M → f.b.natAbs ≤ M → s.b.natAbs ≤ M → f.c.natAbs ≤ M → s.c.natAbs ≤ M →
    s.b.natAbs * f.a.natAbs + f.b.natAbs * s.a.natAbs ≤ M → s.c.natAbs * f.a.natAbs + f.c.natAbs * s.a.natAbs ≤ M → f.a = a * f.b + b * f.c → s.a = a * s.b + b * s.c →
    ∃ g s', m_bezout_w1 k fuel (f, s) = k (g, s') ∧ g.a = (Int.gcd f.a s.a : Int) ∧ g.a = a * g.b + b * g.c := by
  intro fuel
  induction fuel with
  | zero => intro f s h0 h1 h2; omega
  | succ n ih =>
    intro f s h0 h1 h2 h3 h4 h5 h6 h7 h8 h9 h10 h11 h12
    rw [bez_step]
    by_cases hs : s.a = 0
    · rw [if_pos hs]
      exact ⟨f, s, rfl, by rw [hs, Int.gcd_zero_right]; omega, h11⟩
    · rw [if_neg hs]
      have hp : 0 < s.a := by omega
      have ht : (f.a / s.a).natAbs = f.a.natAbs / s.a.natAbs := by
        rw [Int.natAbs_ediv_of_nonneg h0]
      have hr : f.a - f.a / s.a * s.a = f.a % s.a := by
        have := Int.emod_add_mul_ediv f.a s.a
        rw [Int.mul_comm (f.a / s.a)]; omega
      have hrn : (f.a % s.a).natAbs = f.a.natAbs % s.a.natAbs := by
        rw [Int.natAbs_emod_of_nonneg h0]
      have hq : 0 < s.a.natAbs := by omega
      have c1 := cof f.a.natAbs s.a.natAbs f.b.natAbs s.b.natAbs (f.b - f.a / s.a * s.b).natAbs M hq h9 (by rw [← ht]; exact natAbs_sub_mul ..)
      have c2 := cof f.a.natAbs s.a.natAbs f.c.natAbs s.c.natAbs (f.c - f.a / s.a * s.c).natAbs M hq h10 (by rw [← ht]; exact natAbs_sub_mul ..)
      have ht2 : (f.a / s.a).natAbs ≤ M := by rw [ht]; exact Nat.le_trans (Nat.div_le_self ..) h3
      have lt := fun {x : Int} (h : x.natAbs ≤ M) => (show x.natAbs < 2 ^ B by omega)
      rw [Res.need_pos (wide_div hp (lt h4) hB0 (by omega)), need_mulx (lt ht2) (lt h4) (by omega), need_mulx (lt ht2) (lt h6) (by omega), need_mulx (lt ht2) (lt h8) (by omega)]
      have e0 := Int.emod_nonneg f.a (show s.a ≠ 0 by omega)
      have e1 := Int.emod_lt_of_pos f.a hp
      obtain ⟨g, s', q1, q2, q3⟩ := ih s (T3.mk (f.a - f.a / s.a * s.a) (f.b - f.a / s.a * s.b) (f.c - f.a / s.a * s.c)) h1 (by show 0 ≤ f.a - f.a / s.a * s.a; rw [hr]; exact e0) (by show f.a - f.a / s.a * s.a < _; rw [hr]; omega) h4 (by show (f.a - f.a / s.a * s.a).natAbs ≤ M; rw [hr]; omega) h6 c1.2.1 h8 c2.2.1
        (by show (f.b - f.a / s.a * s.b).natAbs * s.a.natAbs + s.b.natAbs * (f.a - f.a / s.a * s.a).natAbs ≤ M; rw [hr, hrn]; exact c1.1)
        (by show (f.c - f.a / s.a * s.c).natAbs * s.a.natAbs + s.c.natAbs * (f.a - f.a / s.a * s.a).natAbs ≤ M; rw [hr, hrn]; exact c2.1)
        h12 (by
          show f.a - f.a / s.a * s.a = a * (f.b - f.a / s.a * s.b) + b * (f.c - f.a / s.a * s.c)
          generalize f.a / s.a = t
          rw [h11, h12]; grind)
      exact ⟨g, s', q1, by rw [q2]; show ((Int.gcd s.a (f.a - f.a / s.a * s.a) : Nat) : Int) = _; rw [gcd_step], q3⟩
theorem inv_ok {a m : Int} {B : Nat} (hm : 0 < m) (hb : m.natAbs < 2 ^ B) (hB : B ≤ 8000) : (Int.gcd a m = 1 → ∃ i, m_inverse a m = .ok i ∧ 0 ≤ i ∧ i < m ∧ m ∣ a * i - 1) ∧ (Int.gcd a m ≠ 1 → m_inverse a m = .exc "NoInverse") := by
  have e0 := Int.emod_nonneg a (show m ≠ 0 by omega)
  have e1 := Int.emod_lt_of_pos a hm
  have hB0 : 0 < B := by
    rcases Nat.eq_zero_or_pos B with z | z
    · subst z; simp at hb; omega
    · exact z
  obtain ⟨g, s', q1, q2, q3⟩ := bez_loop (a := a % m) (b := m) (M := m.natAbs) hb hB0 hB m_bezout_k3 (m.natAbs + 1) (T3.mk (a % m) 1 0) (T3.mk m 0 1) e0 (by show 0 ≤ m; omega) (by show m < _; omega) (by show (a % m).natAbs ≤ _; omega) (by show m.natAbs ≤ _; omega) (by show 1 ≤ _; omega) (by show 0 ≤ _; omega) (by show 0 ≤ _; omega) (by show 1 ≤ _; omega)
    (by show 0 * (a % m).natAbs + 1 * m.natAbs ≤ _; omega) (by show 1 * (a % m).natAbs + 0 * m.natAbs ≤ _; omega) (by show a % m = a % m * 1 + m * 0; omega) (by show m = a % m * 0 + m * 1; omega)
  have q2 : g.a = (Int.gcd (a % m) m : Int) := q2
  have eg : Int.gcd (a % m) m = Int.gcd a m := by
    have : a % m = a - m * (a / m) := by have := Int.emod_add_mul_ediv a m; omega
    rw [this, Int.gcd_comm, Int.gcd_sub_mul_left_right, Int.gcd_comm]
  rw [eg] at q2
  have hbz : m_bezout (a % m) m = .ok g := by
    unfold m_bezout
    simp only [Res.bind_ok]
    rw [q1]
    unfold m_bezout_k3
    simp only [Res.bind_ok, cond_dec]
    rw [if_neg (by omega)]
  clear q1
  unfold m_inverse
  simp only [Res.bind_ok, need_bind, cond_not, cond_dec, Res.need_pos hm, hbz]
  constructor
  · intro h1
    rw [if_pos (by omega)]
    refine ⟨_, rfl, Int.emod_nonneg _ (by omega), Int.emod_lt_of_pos _ hm, ?_⟩
    have h2 : a % m * g.b + m * g.c = 1 := by omega
    have h3 := Int.emod_add_mul_ediv a m
    have h4 := Int.emod_add_mul_ediv g.b m
    generalize a % m = r at *
    generalize a / m = t at *
    generalize g.b % m = u at *
    generalize g.b / m = v at *
    refine ⟨t * u - r * v - g.c, ?_⟩
    rw [← h3]
    have h5 : u = g.b - m * v := by omega
    rw [h5]
    grind
  · intro h1
    rw [if_neg (by omega)]
/-! ### the inverse modulo a prime -/
theorem pinv {p : Nat} (h : Pr p) (a : Int) (ha : zm p a ≠ 0) : ∃ i, m_inverse a (p : Int) = .ok i ∧ Rs p i ∧ zm p i * zm p a = 1 := by
  have hp := h.pos
  have hg : Int.gcd a (p : Int) = 1 := by
    have : Nat.Coprime p a.natAbs := h.pr.cop fun d => ha (zm_dvd.mpr (Int.ofNat_dvd_left.mpr d))
    show Nat.gcd a.natAbs p = 1
    rw [Nat.gcd_comm]; exact this
  obtain ⟨i, e, i0, i1, i2⟩ := (inv_ok (a := a) (m := p) (B := 256) hp (by rw [Int.natAbs_natCast]; exact h.lt) (by decide)).1 hg
  refine ⟨i, e, ⟨i0, i1⟩, ?_⟩
  have := zm_dvd.mpr i2
  rw [zm_sub, zm_mul] at this
  have t : zm p 1 = 1 := rfl
  rw [t] at this
  grind
theorem pinv_f {p : Nat} [Prm p] (h : Pr p) (a : Int) (ha : zm p a ≠ 0) : ∃ i, m_inverse a (p : Int) = .ok i ∧ Rs p i ∧ zm p i = (zm p a)⁻¹ := by
  obtain ⟨i, e, r, q⟩ := pinv h a ha
  refine ⟨i, e, r, ?_⟩
  have := z_mul_inv ha
  grind

/-! ### the program's curve -/
theorem rwp_ok {p : Nat} (h : Pr p) (a : Int) (odd : Bool) : (m_root_with_parity a (p : Int) odd = .ok none ∧ (a % p ≠ 0 ∧ a ^ hf p % p = p - 1 ∨ a % p = 0 ∧ odd = true)) ∨ ∃ r, m_root_with_parity a (p : Int) odd = .ok (some r) ∧ 0 ≤ r ∧ r < p ∧ r * r % p = a % p ∧ (decide (r % 2 = 1) = odd) := by
  have hp := h.pos
  have ho := h.odd
  have h3 := h.ge
  have ti : ∀ r : Int, toD (some r) = D.int r := fun _ => rfl
  have ai : ∀ r : Int, D.asInt (D.int r) = .ok r := fun _ => rfl
  have nn : ∀ r : Int, (D.int r).isNon = false := fun _ => rfl
  have n0 : (toD (none : Option Int)).isNon = true := rfl
  have ok0 : ∀ r s : Int, (D.int r).okq = true ∧ (toD s).okq = true := fun _ _ => ⟨rfl, rfl⟩
  have td : ∀ s : Int, toD s = D.int s := fun _ => rfl
  have ne : ∀ r : Int, r ≠ 0 → pyEq (D.int r) (D.int 0) = false := fun r hr => pyEq_ne rfl rfl fun e => hr (D.int.inj e)
  have e0 : pyEq (D.int 0) (D.int 0) = true := pyEq_self rfl
  unfold m_root_with_parity
  rcases sroot_ok h a with ⟨q1, q2⟩ | ⟨q1, q2, q3⟩ | ⟨q1, q2, r, q3, q4, q5, q6⟩
  · simp only [Res.bind_ok, q1, ti, nn, cond_false, ai, cond_dec]
    cases odd
    · refine .inr ⟨0, ?_, by decide, by omega, by rw [q2]; rfl, rfl⟩
      rfl
    · refine .inl ⟨?_, .inr ⟨q2, rfl⟩⟩
      rw [if_pos rfl, if_neg (by decide), Res.need_pos (ok0 0 0), td, e0]
      rfl
  · simp only [Res.bind_ok, q3, n0, cond_true]
    exact .inl ⟨trivial, .inl ⟨q1, q2⟩⟩
  · simp only [Res.bind_ok, q3, ti, nn, cond_false, ai, cond_dec]
    by_cases c : r % 2 = if odd = true then (1 : Int) else 0
    · rw [if_pos c]
      refine .inr ⟨r, rfl, by omega, by omega, q6, ?_⟩
      cases odd
      · rw [if_neg (by decide)] at c; exact decide_eq_false (by omega)
      · rw [if_pos rfl] at c; exact decide_eq_true c
    · rw [if_neg c, Res.need_pos (ok0 r 0), td, ne r (by omega)]
      refine .inr ⟨p - r, rfl, by omega, by omega, ?_, ?_⟩
      · rw [← q6, show ((p : Int) - r) * (p - r) = r * r + p * (p - 2 * r) by grind, Int.add_mul_emod_self_left]
      · cases odd
        · rw [if_neg (by decide)] at c; exact decide_eq_false (by omega)
        · rw [if_pos rfl] at c; exact decide_eq_true (by omega)
theorem isres_int (i m : Int) : m_is_residue (D.int i) m = .ok (decide (0 ≤ i ∧ i < m)) := by
  have e1 : (toD (D.int i)).plain = true := rfl
  have e2 : isI "int" (toD (D.int i)) = true := rfl
  have e3 : isI "bool" (toD (D.int i)) = false := rfl
  have ai : D.asInt (D.int i) = .ok i := rfl
  unfold m_is_residue m_is_whole
  simp only [Res.bind_ok, Res.need_pos e1, e2, e3, cond_true, Bool.not_false, ai]
  by_cases h0 : 0 ≤ i <;> by_cases h1 : i < m <;> simp [h0, h1, Res.bind_ok]
theorem isres_bl (b : Bool) (m : Int) : m_is_residue (D.bl b) m = .ok false := by
  have e1 : (toD (D.bl b)).plain = true := rfl
  have e2 : isI "int" (toD (D.bl b)) = true := rfl
  have e3 : isI "bool" (toD (D.bl b)) = true := rfl
  unfold m_is_residue m_is_whole
  simp only [Res.bind_ok, Res.need_pos e1, e2, e3, cond_true, Bool.not_true, cond_false]
theorem pair_two {x y : D} {m : Int} {u v : Bool} (hx : m_is_residue x m = .ok u) (hy : m_is_residue y m = .ok v) : m_is_residue_pair (D.tup [x, y]) m = .ok (u && v) := by
  have e1 : (toD (D.tup [x, y])).plain = true := rfl
  have e2 : isI "tuple" (toD (D.tup [x, y])) = true := rfl
  have e3 : D.lenR (D.tup [x, y]) = .ok 2 := rfl
  have e4 : D.asTu (D.tup [x, y]) = .ok ⟨[x, y]⟩ := rfl
  unfold m_is_residue_pair
  simp only [Res.bind_ok, Res.need_pos e1, e2, e3, e4, cond_true, cond_dec, if_pos, need_bind]
  rw [Res.need_pos (show [x, y].length ≤ 16777216 by show 2 ≤ 16777216; decide)]
  simp only [compL, Res.bind_ok, hx, hy, Res.noexc, cond_true, List.all_cons, List.all_nil, id, Bool.and_true]
theorem pair_no {x : D} {m : Int} (hp : x.plain = true) (h : isI "tuple" x = false) : m_is_residue_pair x m = .ok false := by
  unfold m_is_residue_pair
  simp only [Res.bind_ok, toD_D, Res.need_pos hp, h, cond_false]
theorem pair_len {xs : List D} {m : Int} (h : xs.length ≠ 2) : m_is_residue_pair (D.tup xs) m = .ok false := by
  have e1 : (toD (D.tup xs)).plain = true := rfl
  have e2 : isI "tuple" (toD (D.tup xs)) = true := rfl
  have e3 : D.lenR (D.tup xs) = .ok (xs.length : Int) := rfl
  unfold m_is_residue_pair
  simp only [Res.bind_ok, Res.need_pos e1, e2, e3, cond_true, cond_dec]
  rw [if_neg (by omega)]
theorem side_ok {p : Nat} [Pb p] {a b x : Int} [Bd a 256] [Bd x 256] : m_Curve_u_right_side ⟨p, a, b⟩ x = .ok ((x ^ 3 + a * x + b) % p) := by
  unfold m_Curve_u_right_side
  simp (decide := true) only [Res.bind_ok, need_bind, need_bd, need_p, need_pw3, tn3]
theorem has_pair {p : Nat} [Pb p] {a b x y : Int} (ha : Rs p a) (hx : Rs p x) (hy : Rs p y) : m_Curve_has ⟨p, a, b⟩ (D.tup [D.int x, D.int y]) = .ok (decide (On p a b x y)) := by
  have := ha.bd
  have := hx.bd
  have := hy.bd
  have e0 : (toD (D.tup [D.int x, D.int y])).isNon = false := rfl
  have e4 : D.asTu (D.tup [D.int x, D.int y]) = .ok ⟨[D.int x, D.int y]⟩ := rfl
  have i0 : idx [D.int x, D.int y] (0 : Int) = .ok (D.int x) := rfl
  have i1 : idx [D.int x, D.int y] (1 : Int) = .ok (D.int y) := rfl
  have ai : ∀ i, D.asInt (D.int i) = .ok i := fun _ => rfl
  have px := pair_two (isres_int x p) (isres_int y p)
  rw [decide_eq_true (show 0 ≤ x ∧ x < p from hx), decide_eq_true (show 0 ≤ y ∧ y < p from hy)] at px
  unfold m_Curve_has
  simp (decide := true) only [Res.bind_ok, e0, cond_false, px, Bool.and_true, Bool.not_true, e4, i0, i1, ai, side_ok, need_bind, need_bd, need_p, need_pw2, tn2]
  congr 1
  refine decide_eq_decide.mpr ?_
  rw [on_z, ← zm_zero]
  simp only [zm_sub, zm_mod, zm_add, zm_mul, zm_pow]
  constructor <;> intro h <;> grind
theorem has_no {p : Nat} {a b : Int} {x : D} (h : m_is_residue_pair x p = .ok false) (hn : x.isNon = false) : m_Curve_has ⟨p, a, b⟩ x = .ok false := by
  unfold m_Curve_has
  simp only [Res.bind_ok, toD_D, hn, cond_false, h, Bool.not_false, cond_true]
theorem init_ok {p : Nat} (h : Pr p) (h5 : 5 ≤ p) (a b : Int) : m_Curve_init (p : Int) a b = if (4 * (a % p) ^ 3 + 27 * (b % p) ^ 2) % (p : Int) = 0 then .exc "Refused" else .ok ⟨p, a % p, b % p⟩ := by
  have P := h.pb
  have ho := h.odd
  have c1 : decide ((p : Int) < 5) = false := decide_eq_false (by omega)
  have c2 : decide ((p : Int) % 2 = 0) = false := decide_eq_false (by omega)
  unfold m_Curve_init
  simp (decide := true) only [Res.bind_ok, c1, c2, cond_false, need_bind, need_p, need_pw3, need_pw2, tn3, tn2, cond_dec]
theorem init_bad {m : Int} (h : m < 5 ∨ m % 2 = 0) (a b : Int) : m_Curve_init m a b = .exc "OutOfRange" := by
  unfold m_Curve_init
  simp only [Res.bind_ok]
  by_cases c : m < 5
  · simp only [decide_eq_true c, cond_true, Res.bind_ok]
  · simp only [decide_eq_false c, cond_false, Res.bind_ok, decide_eq_true (h.resolve_left c), cond_true]
theorem lift_in {p : Nat} (h : Pr p) {a b x : Int} (ha : Rs p a) (hx : Rs p x) (odd : Bool) : (m_Curve_lift ⟨p, a, b⟩ x odd = .ok none ∧ ((x * x * x + a * x + b) % p ≠ 0 ∧ ((x * x * x + a * x + b) % p) ^ hf p % p = p - 1 ∨ (x * x * x + a * x + b) % p = 0 ∧ odd = true)) ∨ ∃ r, m_Curve_lift ⟨p, a, b⟩ x odd = .ok (some (T2.mk x r)) ∧ Rs p r ∧ On p a b x r ∧ (decide (r % 2 = 1) = odd) := by
  have P := h.pb
  have := ha.bd
  have := hx.bd
  have e3 : (x ^ 3 + a * x + b) % (p : Int) = (x * x * x + a * x + b) % p := by
    rw [Int.pow_succ, ipow2]
  have o1 : ∀ r : Int, (toD (some r)).isNon = false := fun _ => rfl
  have o2 : (toD (none : Option Int)).isNon = true := rfl
  have b1 : (!decide (0 ≤ x ∧ x < (p : Int))) = false := by rw [decide_eq_true (show 0 ≤ x ∧ x < (p : Int) from hx)]; rfl
  have tx : toD x = D.int x := rfl
  unfold m_Curve_lift
  simp only [Res.bind_ok, tx, isres_int, b1, cond_false, side_ok, e3]
  rcases rwp_ok h ((x * x * x + a * x + b) % p) odd with ⟨q1, q2⟩ | ⟨r, q1, q2, q3, q4, q5⟩
  · simp only [q1, Res.bind_ok, o2, cond_true]
    refine .inl ⟨trivial, ?_⟩
    rw [em_em] at q2
    exact q2
  · simp only [q1, Res.bind_ok, o1, cond_false]
    refine .inr ⟨r, rfl, ⟨q2, q3⟩, on_z.mpr ?_, q5⟩
    rw [em_em] at q4
    have := zm_eq.mpr q4
    simpa only [zm_add, zm_mul] using this
theorem lift_out {p : Nat} {a b x : Int} (hx : ¬ Rs p x) (odd : Bool) : m_Curve_lift ⟨p, a, b⟩ x odd = .ok none := by
  have b1 : (!decide (0 ≤ x ∧ x < (p : Int))) = true := by rw [decide_eq_false (show ¬ (0 ≤ x ∧ x < (p : Int)) from hx)]; rfl
  have tx : toD x = D.int x := rfl
  unfold m_Curve_lift
  simp only [Res.bind_ok, tx, isres_int, b1, cond_true]
theorem neg_some {p : Nat} [Pb p] {a b x y : Int} : m_Curve_negate ⟨p, a, b⟩ (some (T2.mk x y)) = .ok (some (T2.mk x (-y % p))) := by
  have o1 : (toD (some (T2.mk x y))).isNon = false := rfl
  have og : optGet (some (T2.mk x y)) = .ok (T2.mk x y) := rfl
  unfold m_Curve_negate
  simp only [Res.bind_ok, o1, cond_false, og, need_bind, need_p]
theorem on_neg {p : Nat} {a b x y : Int} (h : On p a b x y) : On p a b x (-y % p) := by
  rw [on_z] at h ⊢
  rw [zm_mod, zm_neg]; grind

/-! ### points as the program keeps them -/
class CvP (C : Cv) : Prop where
  pr : Pr C.p
instance (C : Cv) [h : CvP C] : Pb C.p := h.pr.pb
abbrev P2 := Option (T2 Int Int)
def lfv {p : Nat} : Mi.Pt (Zp p) → P2
  | none => none
  | some (x, y) => some (T2.mk (zv x) (zv y))
def lf {C : Cv} (P : C.Pt) : P2 := lfv P.v
abbrev Cv.o (C : Cv) : O_Curve := ⟨C.p, C.a, C.b⟩
theorem lfv_inj {p : Nat} {P Q : Mi.Pt (Zp p)} (h : lfv P = lfv Q) : P = Q := by
  cases P with
  | none => cases Q with
    | none => rfl
    | some q => cases h
  | some r => cases Q with
    | none => cases h
    | some q =>
      obtain ⟨x1, y1⟩ := r
      obtain ⟨x2, y2⟩ := q
      have h := Option.some.inj h
      rw [zv_inj (congrArg T2.a h), zv_inj (congrArg T2.b h)]
section
variable {C : Cv}
theorem lf_inj {P Q : C.Pt} (h : lf P = lf Q) : P = Q := Cv.ext (lfv_inj h)
theorem lf_zero : lf (0 : C.Pt) = none := rfl
theorem lf_none {P : C.Pt} (h : lf P = none) : P = 0 := lf_inj h
theorem toD_some2 (x y : Int) : toD (some (T2.mk x y)) = D.tup [D.int x, D.int y] := rfl
theorem toD_T2 (x y : Int) : toD (T2.mk x y) = D.tup [D.int x, D.int y] := rfl
theorem toD_none2 : toD (none : P2) = D.non := rfl
theorem okq_p2 (P : P2) : (toD P).okq = true := by
  cases P with
  | none => rfl
  | some q => obtain ⟨x, y⟩ := q; rfl
theorem okq_t2 (q : T2 Int Int) : (toD q).okq = true := by obtain ⟨x, y⟩ := q; rfl
theorem nob_p2 (P : P2) : (toD P).nob = true := by
  cases P with
  | none => rfl
  | some q => obtain ⟨x, y⟩ := q; rfl
theorem toD_p2_inj {P Q : P2} (h : toD P = toD Q) : P = Q := by
  cases P with
  | none => cases Q with
    | none => rfl
    | some q => obtain ⟨x, y⟩ := q; rw [toD_none2, toD_some2] at h; cases h
  | some r => cases Q with
    | none => obtain ⟨x, y⟩ := r; rw [toD_none2, toD_some2] at h; cases h
    | some q =>
      obtain ⟨x1, y1⟩ := r
      obtain ⟨x2, y2⟩ := q
      rw [toD_some2, toD_some2] at h
      simp only [D.tup.injEq, List.cons.injEq, D.int.injEq, and_true] at h
      rw [h.1, h.2]
theorem pyEq_p2 (P Q : P2) : pyEq (toD P) (toD Q) = true ↔ P = Q := (pyEq_dec (nob_p2 P) (nob_p2 Q)).trans ⟨toD_p2_inj, fun h => by rw [h]⟩
noncomputable instance : DecidableEq C.Pt := fun a b => Classical.propDecidable _
theorem pyEq_lf (P Q : C.Pt) : pyEq (toD (lf P)) (toD (lf Q)) = decide (P = Q) := by
  by_cases h : P = Q
  · rw [decide_eq_true h, h]; exact (pyEq_p2 _ _).mpr rfl
  · rw [decide_eq_false h]
    cases e : pyEq (toD (lf P)) (toD (lf Q)) with
    | false => rfl
    | true => exact absurd (lf_inj ((pyEq_p2 _ _).mp e)) h
theorem pyEq_t2 (P Q : T2 Int Int) : pyEq (toD P) (toD Q) = true ↔ P = Q := (pyEq_p2 (some P) (some Q)).trans ⟨Option.some.inj, fun h => by rw [h]⟩
theorem isNon_lf0 : (toD (lf (0 : C.Pt))).isNon = true := rfl
theorem isNon_lf {P : C.Pt} (h : P ≠ 0) : (toD (lf P)).isNon = false := by
  cases e : lf P with
  | none => exact absurd (lf_none e) h
  | some q => obtain ⟨x, y⟩ := q; rfl
/-- the coordinates of a point -/
theorem lf_some {P : C.Pt} {x y : Int} (h : lf P = some (T2.mk x y)) : Rs C.p x ∧ Rs C.p y ∧ On C.p C.a C.b x y ∧ P.v = some (zm C.p x, zm C.p y) := by
  obtain ⟨v, on⟩ := P
  cases v with
  | none => cases h
  | some q =>
    obtain ⟨u, w⟩ := q
    have h : T2.mk (zv u) (zv w) = T2.mk x y := Option.some.inj h
    have hx : zv u = x := congrArg T2.a h
    have hy : zv w = y := congrArg T2.b h
    subst hx hy
    refine ⟨⟨zv_ge u, zv_lt u⟩, ⟨zv_ge w, zv_lt w⟩, ?_, ?_⟩
    · rw [on_z, zm_zv, zm_zv]; exact on
    · show some (u, w) = some (_, _)
      rw [zm_zv, zm_zv]
theorem lf_ex {x y : Int} (hx : Rs C.p x) (hy : Rs C.p y) (ho : On C.p C.a C.b x y) : ∃ P : C.Pt, lf P = some (T2.mk x y) ∧ P.v = some (zm C.p x, zm C.p y) :=
  ⟨⟨some (zm C.p x, zm C.p y), on_z.mp ho⟩, by
    show some (T2.mk (zv (zm C.p x)) (zv (zm C.p y))) = _
    rw [zv_of hx.1 hx.2, zv_of hy.1 hy.2], rfl⟩
theorem Cv.A (C : Cv) : Rs C.p C.a := ⟨C.a0, C.a1⟩
theorem Cv.B (C : Cv) : Rs C.p C.b := ⟨C.b0, C.b1⟩
theorem lf_neg {P : C.Pt} {x y : Int} (h : lf P = some (T2.mk x y)) : lf (-P) = some (T2.mk x (-y % C.p)) := by
  obtain ⟨hx, hy, ho, hv⟩ := lf_some h
  have : (-P).v = some (zm C.p x, -zm C.p y) := by
    show pneg P.v = _
    rw [hv]; rfl
  show lfv (-P).v = _
  rw [this]
  show some (T2.mk (zv (zm C.p x)) (zv (-zm C.p y))) = _
  rw [zv_of hx.1 hx.2, ← zm_neg, zv_zm]
theorem neg_ok [CvP C] (P : C.Pt) : m_Curve_negate C.o (lf P) = .ok (lf (-P)) := by
  cases e : lf P with
  | none =>
    rw [lf_none e, g_neg_zero]
    rfl
  | some q =>
    obtain ⟨x, y⟩ := q
    rw [neg_some, lf_neg e]
def IsSl (C : Cv) (x1 y1 x2 y2 s : Int) : Prop := (zm C.p x1 = zm C.p x2 → zm C.p s = (3 * zm C.p x1 * zm C.p x1 + zm C.p C.a) * (2 * zm C.p y1)⁻¹) ∧ (zm C.p x1 ≠ zm C.p x2 → zm C.p s = (zm C.p y2 - zm C.p y1) * (zm C.p x2 - zm C.p x1)⁻¹)
/-- the sum by its coordinates -/
theorem lf_add {P Q : C.Pt} {x1 y1 x2 y2 s : Int} (h1 : lf P = some (T2.mk x1 y1)) (h2 : lf Q = some (T2.mk x2 y2)) (hn : Q ≠ -P)
    (hs : IsSl C x1 y1 x2 y2 s) :
    lf (P + Q) = some (T2.mk ((s * s - x1 - x2) % C.p) ((s * (x1 - (s * s - x1 - x2) % C.p) - y1) % C.p)) := by
  obtain ⟨X1, Y1, O1, v1⟩ := lf_some h1
  obtain ⟨X2, Y2, O2, v2⟩ := lf_some h2
  have e : (P + Q).v = padd (zm C.p C.a) P.v Q.v := rfl
  rw [v1, v2, padd_eq, if_neg] at e
  · dsimp only at e
    have hs2 : zm C.p s = @ite _ (zm C.p x1 = zm C.p x2) (Classical.propDecidable _) ((3 * zm C.p x1 * zm C.p x1 + zm C.p C.a) * (2 * zm C.p y1)⁻¹) ((zm C.p y2 - zm C.p y1) * (zm C.p x2 - zm C.p x1)⁻¹) := by
      by_cases c : zm C.p x1 = zm C.p x2
      · rw [if_pos c]; exact hs.1 c
      · rw [if_neg c]; exact hs.2 c
    rw [← hs2] at e
    show lfv (P + Q).v = _
    rw [e]
    show some (T2.mk (zv _) (zv _)) = _
    congr 2
    rw [← zv_zm]
    congr 1
    simp only [zm_sub, zm_mul, zm_mod]
  · rintro ⟨c1, c2⟩
    apply hn
    apply Cv.ext
    show Q.v = pneg P.v
    rw [v1, v2]
    show some (_, _) = some (_, _)
    rw [c1, show zm C.p y2 = -zm C.p y1 by grind]
theorem lf_ne {P Q : C.Pt} {x1 y1 x2 y2 : Int} (h1 : lf P = some (T2.mk x1 y1)) (h2 : lf Q = some (T2.mk x2 y2)) (hn : Q ≠ -P) (hx : x1 = x2) : P = Q ∧ y1 = y2 ∧ zm C.p y1 ≠ 0 := by
  subst hx
  obtain ⟨X1, Y1, O1, v1⟩ := lf_some h1
  obtain ⟨X2, Y2, O2, v2⟩ := lf_some h2
  have o1 := on_z.mp O1
  have o2 := on_z.mp O2
  have d : (zm C.p y1 - zm C.p y2) * (zm C.p y1 + zm C.p y2) = 0 := by grind
  have hneg : zm C.p y1 + zm C.p y2 ≠ 0 := by
    intro c2
    apply hn
    apply Cv.ext
    show Q.v = pneg P.v
    rw [v1, v2]
    show some (_, _) = some (_, _)
    rw [show zm C.p y2 = -zm C.p y1 by grind]
  have e : zm C.p y1 = zm C.p y2 := by
    rcases z_dom C.pr d with q | q
    · grind
    · exact absurd q hneg
  refine ⟨Cv.ext (by rw [v1, v2, e]), res_eq Y1.1 Y1.2 Y2.1 Y2.2 e, fun z => hneg ?_⟩
  rw [← e, z]; grind
theorem slope_ok [hC : CvP C] {P Q : C.Pt} {x1 y1 x2 y2 : Int} (h1 : lf P = some (T2.mk x1 y1)) (h2 : lf Q = some (T2.mk x2 y2)) (hn : Q ≠ -P) :
    ∃ s, m_Curve_u_slope C.o (T2.mk x1 y1) (T2.mk x2 y2) = .ok s ∧ Rs C.p s ∧ IsSl C x1 y1 x2 y2 s := by
  obtain ⟨X1, Y1, O1, v1⟩ := lf_some h1
  obtain ⟨X2, Y2, O2, v2⟩ := lf_some h2
  have := X1.bd
  have := X2.bd
  have := Y1.bd
  have := Y2.bd
  have := (Cv.A C).bd
  have ok0 : (toD (T2.mk x1 y1)).okq = true ∧ (toD (T2.mk x2 y2)).okq = true := ⟨okq_t2 _, okq_t2 _⟩
  have fin : ∀ rise run : Int, Bd rise 600 → zm C.p run ≠ 0 → ∃ s, m_Curve_u_slope_k1 C.o (rise, run) = .ok s ∧ Rs C.p s ∧ zm C.p s = zm C.p rise * (zm C.p run)⁻¹ := by
    intro rise run hb hr
    obtain ⟨i, e, ri, z⟩ := pinv_f hC.pr run hr
    have := ri.bd
    unfold m_Curve_u_slope_k1
    simp (decide := true) only [Res.bind_ok, e, need_bind, need_bd, need_p]
    exact ⟨_, rfl, rs_mod _, by rw [zm_mod, zm_mul, z]⟩
  unfold m_Curve_u_slope
  simp (decide := true) only [Res.bind_ok, Res.need_pos ok0, need_bind, need_pw2, tn2]
  by_cases hx : x1 = x2
  · obtain ⟨e1, e2, e3⟩ := lf_ne h1 h2 hn hx
    subst hx e2
    rw [(pyEq_t2 _ _).mpr rfl, cond_true]
    have hr : zm C.p (2 * y1) ≠ 0 := by rw [zm_mul]; exact z_mul_ne C.pr C.two e3
    obtain ⟨s, a1, a2, a3⟩ := fin (3 * x1 ^ 2 + C.a) (2 * y1) ⟨Bd.up (bd_add (x := 3 * x1 ^ 2) (y := C.a)).lt (by decide)⟩ hr
    refine ⟨s, a1, a2, fun _ => ?_, fun z => absurd rfl z⟩
    rw [a3]
    have t : zm C.p (3 * x1 ^ 2 + C.a) = 3 * zm C.p x1 * zm C.p x1 + zm C.p C.a := by
      rw [ipow2, zm_add, zm_mul, zm_mul]
      show (3 : Zp C.p) * _ + _ = _
      grind
    rw [t]; rfl
  · have hne : zm C.p x1 ≠ zm C.p x2 := fun e => hx (res_eq X1.1 X1.2 X2.1 X2.2 e)
    have hq : pyEq (toD (T2.mk x1 y1)) (toD (T2.mk x2 y2)) = false := by
      cases e : pyEq (toD (T2.mk x1 y1)) (toD (T2.mk x2 y2)) with
      | false => rfl
      | true => exact absurd (congrArg T2.a ((pyEq_t2 _ _).mp e)) hx
    rw [hq, cond_false]
    have hr : zm C.p (x2 - x1) ≠ 0 := by rw [zm_sub]; grind
    obtain ⟨s, a1, a2, a3⟩ := fin (y2 - y1) (x2 - x1) ⟨Bd.up (bd_sub (x := y2) (y := y1)).lt (by decide)⟩ hr
    exact ⟨s, a1, a2, fun z => absurd z hne, fun _ => by rw [a3, zm_sub, zm_sub]⟩
theorem add_ok [hC : CvP C] (P Q : C.Pt) : m_Curve_add C.o (lf P) (lf Q) = .ok (lf (P + Q)) := by
  unfold m_Curve_add
  by_cases hP : P = 0
  · subst hP
    simp only [Res.bind_ok, isNon_lf0, cond_true, g_zero_add]
  by_cases hQ : Q = 0
  · subst hQ
    simp only [Res.bind_ok, isNon_lf0, isNon_lf hP, cond_true, cond_false, g_add_zero]
  have ok0 : (toD (lf Q)).okq = true ∧ (toD (lf (-P))).okq = true := ⟨okq_p2 _, okq_p2 _⟩
  simp only [Res.bind_ok, isNon_lf hP, isNon_lf hQ, cond_false, neg_ok, Res.need_pos ok0, pyEq_lf]
  by_cases hn : Q = -P
  · rw [decide_eq_true hn, cond_true, hn, g_add_neg]; rfl
  · rw [decide_eq_false hn, cond_false]
    cases e1 : lf P with
    | none => exact absurd (lf_none e1) hP
    | some q =>
    cases e2 : lf Q with
    | none => exact absurd (lf_none e2) hQ
    | some r =>
    obtain ⟨x1, y1⟩ := q
    obtain ⟨x2, y2⟩ := r
    obtain ⟨X1, Y1, O1, v1⟩ := lf_some e1
    obtain ⟨X2, Y2, O2, v2⟩ := lf_some e2
    obtain ⟨s, a1, a2, a3⟩ := slope_ok e1 e2 hn
    have := X1.bd
    have := X2.bd
    have := Y1.bd
    have := Y2.bd
    have := a2.bd
    have og : ∀ z : T2 Int Int, optGet (some z) = .ok z := fun _ => rfl
    simp (decide := true) only [Res.bind_ok, og, a1, need_bind, need_bd, need_p, need_pw2, tn2]
    rw [lf_add e1 e2 hn a3, ipow2]
/-! ### the law's own sum -/
theorem linv_f {p : Nat} [Prm p] (h : Pr p) (x : Int) (hx : zm p x ≠ 0) : ∃ i, m_u_law_inverse x (p : Int) = .ok i ∧ Rs p i ∧ zm p i = (zm p x)⁻¹ := by
  have P := h.pb
  refine ⟨_, linv_ok h x, rs_mod _, ?_⟩
  have a := linv_z h x hx
  have := z_mul_inv hx
  grind
end


/-! ### primes with a small number that is no square -/
def Nz (p : Nat) : Prop := ∃ q : Nat, 2 ≤ q ∧ q ≤ 101 ∧ (q : Int) ^ hf p % (p : Int) = p - 1
theorem nz_of {p : Nat} (h : 0 < p) {q : Nat} (h2 : 2 ≤ q) (h3 : q ≤ 101) (e : q ^ ((p - 1) / 2) % p = p - 1) : Nz p := by
  refine ⟨q, h2, h3, ?_⟩
  have c : ((q : Int) ^ hf p % (p : Int)) = ((q ^ ((p - 1) / 2) % p : Nat) : Int) := by
    rw [Int.natCast_emod, Int.natCast_pow]
  rw [c, e]
  omega
theorem nz_small {p : Nat} (h : Pr p) (hl : p < 1015808) : Nz p := by
  obtain ⟨q, h2, h3, e⟩ := small_non h.pr h.odd hl
  exact nz_of (by have := h.ge; omega) h2 h3 e
theorem nz_g0 : Nz g0 := nz_of (by decide) (q := 2) (by decide) (by decide) (by
  rw [← pwm_one (n := g0) (f := 255) (by decide +kernel)]; decide +kernel)
theorem nz_g1 : Nz g1 := nz_of (by decide) (q := 3) (by decide) (by decide) (by
  rw [← pwm_one (n := g1) (f := 256) (by decide +kernel)]; decide +kernel)
theorem nz_g2 : Nz g2 := nz_of (by decide) (q := 3) (by decide) (by decide) (by
  rw [← pwm_one (n := g2) (f := 61) (by decide +kernel)]; decide +kernel)
theorem nz_g3 : Nz g3 := nz_of (by decide) (q := 3) (by decide) (by decide) (by
  rw [← pwm_one (n := g3) (f := 31) (by decide +kernel)]; decide +kernel)
theorem great4_get {z : Int} (h0 : 0 ≤ z) (h1 : z < 4) : ∃ p : Nat, idx ([(g0 : Int), g1, g2, g3] : List Int) z = .ok (p : Int) ∧ Pr p ∧ 5 ≤ p ∧ Nz p := by
  rcases (by omega : z = 0 ∨ z = 1 ∨ z = 2 ∨ z = 3) with rfl | rfl | rfl | rfl
  · exact ⟨g0, rfl, ⟨pr_57896044618658097711785492504343953926634992332820282019728792003956564819949, by decide +kernel, by decide +kernel⟩, by decide +kernel, nz_g0⟩
  · exact ⟨g1, rfl, ⟨pr_115792089237316195423570985008687907853269984665640564039457584007908834671663, by decide +kernel, by decide +kernel⟩, by decide +kernel, nz_g1⟩
  · exact ⟨g2, rfl, ⟨prime_m61, by decide +kernel, by decide +kernel⟩, by decide +kernel, nz_g2⟩
  · exact ⟨g3, rfl, ⟨prime_m31, by decide +kernel, by decide +kernel⟩, by decide +kernel, nz_g3⟩
theorem edwards_prime_ok (c : Int) : ∃ p : Nat, m_u_law_edwards_prime c = .ok (p : Int) ∧ Pr p ∧ 5 ≤ p ∧ Nz p := by
  have e64 : (2 : Int) ^ (64 : Int).toNat = 18446744073709551616 := by decide +kernel
  have e63 : (2 : Int) ^ (63 : Int).toNat = 9223372036854775808 := by decide +kernel
  have e61 : (2 : Int) ^ (61 : Int).toNat = 2305843009213693952 := by decide +kernel
  have e32 : (2 : Int) ^ (32 : Int).toNat = 4294967296 := by decide +kernel
  have e31 : (2 : Int) ^ (31 : Int).toNat = 2147483648 := by decide +kernel
  have e192 : (18446744073709551616 * 18446744073709551616 * 18446744073709551616 : Int) = 6277101735386680763835789423207666416102355444464034512896 := by decide +kernel
  have z0 := Int.emod_nonneg ((c.natAbs : Int) / 7) (show (4 : Int) ≠ 0 by decide)
  have z1 := Int.emod_lt_of_pos ((c.natAbs : Int) / 7) (show (0 : Int) < 4 by decide)
  unfold m_u_law_edwards_prime
  simp (decide := true) only [Res.bind_ok, need_bind, e64, e63, e61, e32, e31, need_bd, e192, cond_dec]
  by_cases hc : (c.natAbs : Int) % 7 = 3
  · rw [if_pos hc]
    exact great4_get z0 z1
  · rw [if_neg hc]
    obtain ⟨p, a1, a2, a3, a4⟩ := prime_okb (c / 7) (least := 5) (by decide) (by decide)
    exact ⟨p, a1, a2, a3, nz_small a2 a4⟩
theorem lclassp_ok {p : Nat} (h : Pr p) (a : Int) : m_u_law_class a (p : Int) = .ok (if a ^ hf p % p = p - 1 then -1 else a ^ hf p % p) := by
  have h3 := h.ge
  have hlt := h.lt
  have e : ((p : Int) - 1) / 2 = ((hf p : Nat) : Int) := by unfold hf; omega
  have hl : hf p < 2 ^ 256 := by unfold hf; omega
  unfold m_u_law_class
  simp only [Res.bind_ok, e, lpower_ok h _ _ hl, cond_dec]
  by_cases c : a ^ hf p % (p : Int) = p - 1
  · rw [if_pos c, if_pos c]
  · rw [if_neg c, if_neg c]
theorem lclass_non {p : Nat} (h : Pr p) (a : Int) : (∃ v, m_u_law_class a (p : Int) = .ok v ∧ (v = -1 ↔ a ^ hf p % (p : Int) = p - 1)) := by
  refine ⟨_, lclassp_ok h a, ?_⟩
  have := Int.emod_nonneg (a ^ hf p) (show (p : Int) ≠ 0 by have := h.ge; omega)
  by_cases c : a ^ hf p % (p : Int) = p - 1
  · rw [if_pos c]; exact ⟨fun _ => c, fun _ => rfl⟩
  · rw [if_neg c]; exact ⟨fun z => by omega, fun z => absurd z c⟩
/-! ### a and d of a law -/
theorem ln_loop {p : Nat} (h : Pr p) {q : Nat} (hq : (q : Int) ^ hf p % (p : Int) = p - 1) (k : Int → Res (T2 Int Int)) : ∀ (ks : List Int) (n : Nat), 2 ≤ n → n ≤ q → q < n + ks.length → ∃ l : Nat, m_u_law_numbers_l1 (p : Int) k ks (n : Int) = k (l : Int) ∧ 2 ≤ l ∧ l ≤ q ∧ (l : Int) ^ hf p % (p : Int) = p - 1 := by
  intro ks
  induction ks with
  | nil => intro n h1 h2 h3; rw [List.length_nil] at h3; omega
  | cons x r ih =>
    intro n h1 h2 h3
    rw [List.length_cons] at h3
    rw [m_u_law_numbers_l1]
    obtain ⟨v, e, i⟩ := lclass_non h (n : Int)
    simp only [Res.bind_ok, e]
    by_cases c : v = -1
    · rw [decide_eq_true c, cond_true]
      exact ⟨n, rfl, h1, h2, i.mp c⟩
    · rw [decide_eq_false c, cond_false]
      have : n ≠ q := fun z => c (i.mpr (by rw [z]; exact hq))
      obtain ⟨l, a1, a2, a3, a4⟩ := ih (n + 1) (by omega) (by omega) (by omega)
      exact ⟨l, a1, a2, a3, a4⟩
theorem pow_mul_i (x y : Int) : ∀ n : Nat, (x * y) ^ n = x ^ n * y ^ n
  | 0 => by rw [Int.pow_zero, Int.pow_zero, Int.pow_zero]; rfl
  | n + 1 => by
    rw [Int.pow_succ, Int.pow_succ, Int.pow_succ, pow_mul_i x y n]; ac_rfl
theorem sq_hf {p : Nat} (h : Pr p) {x : Int} (hx : zm p x ≠ 0) : (x * x) ^ hf p % (p : Int) = 1 := by
  have f := fermatI h.pr (a := x) fun d => hx (zm_dvd.mpr d)
  have e : 2 * hf p = p - 1 := by have := h.odd; unfold hf; omega
  rw [← ipow2, ← Int.pow_mul, e]; exact f
theorem hf_mod {p : Nat} (a : Int) : (a % (p : Int)) ^ hf p % (p : Int) = a ^ hf p % p := em_pow (em_em a p) _
theorem no_sq {p : Nat} (h : Pr p) {d : Int} (hd : d ^ hf p % (p : Int) = p - 1) : ∀ z : Zp p, z * z ≠ zm p d := by
  intro z
  refine Quot.inductionOn z fun z e => ?_
  have e : z * z % (p : Int) = d % p := zm_eq.mp e
  have h3 := h.ge
  have hz : zm p z ≠ 0 := by
    intro c
    have c : z % (p : Int) = 0 := zm_zero.mp c
    have : d % (p : Int) = 0 := by rw [← e, Int.mul_emod, c]; simp
    have q := hf_mod (p := p) d
    rw [this, hd] at q
    have : hf p = (hf p - 1) + 1 := by have := h.odd; unfold hf; omega
    rw [this, Int.pow_succ, Int.mul_zero, Int.zero_emod] at q
    omega
  have f := sq_hf h hz
  rw [← hf_mod, e, hf_mod, hd] at f
  omega
theorem esq_ex {p : Nat} (h : Pr p) {a : Int} (ha : a ^ hf p % (p : Int) = 1) : ∃ r : Zp p, r * r = zm p a ∧ r ≠ 0 := by
  obtain ⟨r, _, _, _, e⟩ := root_ok h ha
  refine ⟨zm p r, by rw [← zm_mul]; exact zm_eq.mpr e, fun c => ?_⟩
  have c : r % (p : Int) = 0 := zm_zero.mp c
  have : a % (p : Int) = 0 := by rw [← e, Int.mul_emod, c]; simp
  have q := hf_mod (p := p) a
  rw [this, ha] at q
  have : hf p = (hf p - 1) + 1 := by have := h.odd; have := h.ge; unfold hf; omega
  rw [this, Int.pow_succ, Int.mul_zero, Int.zero_emod] at q
  omega
class EvP (C : Ev) : Prop where
  pr : Pr C.p
instance (C : Ev) [h : EvP C] : Pb C.p := h.pr.pb
abbrev Ev.o (C : Ev) : O_EdwardsCurve := ⟨C.p, C.a, C.d⟩
theorem Ev.A (C : Ev) : Rs C.p C.a := ⟨C.a0, C.a1⟩
theorem Ev.D (C : Ev) : Rs C.p C.d := ⟨C.d0, C.d1⟩
theorem ev_ex {p : Nat} (h : Pr p) {a d : Int} (A : Rs p a) (D : Rs p d) (ha : a ^ hf p % (p : Int) = 1) (hd : d ^ hf p % (p : Int) = p - 1) : ∃ C : Ev, EvP C ∧ C.p = p ∧ C.a = a ∧ C.d = d :=
  ⟨⟨p, a, d, h.pr, h.ge, A.1, A.2, D.1, D.2, ⟨z_ne_num 2 (by decide) h.ge, esq_ex h ha, no_sq h hd⟩⟩, ⟨h⟩, rfl, rfl, rfl⟩
theorem einit_ok {p : Nat} (h : Pr p) (a d : Int) : m_EdwardsCurve_init (p : Int) a d = if a ^ hf p % (p : Int) = 1 ∧ d ^ hf p % (p : Int) = p - 1 then .ok ⟨p, a % p, d % p⟩ else .exc "Refused" := by
  have P := h.pb
  have ho := h.odd
  have h3 := h.ge
  have c1 : decide ((p : Int) < 3) = false := decide_eq_false (by omega)
  have c2 : decide ((p : Int) % 2 = 0) = false := decide_eq_false (by omega)
  have zero : ∀ x : Int, x % (p : Int) = 0 → x ^ hf p % (p : Int) = 0 := by
    intro x hx
    rw [← hf_mod, hx]
    have : hf p = (hf p - 1) + 1 := by unfold hf; omega
    rw [this, Int.pow_succ, Int.mul_zero, Int.zero_emod]
  have half : ∀ x : Int, x % (p : Int) ≠ 0 → x ^ hf p % (p : Int) ≠ 1 → x ^ hf p % (p : Int) = p - 1 := fun x hx h1 => (half_pow h.pr ho (a := x) (fun d => hx (Int.emod_eq_zero_of_dvd d))).resolve_left h1
  unfold m_EdwardsCurve_init
  simp (decide := true) only [Res.bind_ok, c1, c2, cond_false, need_bind, need_p, class_ok h]
  by_cases ha : a ^ hf p % (p : Int) = 1
  · have a0 : a % (p : Int) ≠ 0 := fun z => by rw [zero a z] at ha; omega
    rw [if_neg a0, if_pos ha]
    simp only [decide_true, Bool.not_true, cond_false]
    by_cases hd : d ^ hf p % (p : Int) = p - 1
    · have d0 : d % (p : Int) ≠ 0 := fun z => by rw [zero d z] at hd; omega
      rw [if_neg d0, if_neg (show ¬ d ^ hf p % (p : Int) = 1 by omega), if_pos (show a ^ hf p % (p : Int) = 1 ∧ d ^ hf p % (p : Int) = p - 1 from ⟨ha, hd⟩)]
      rfl
    · rw [if_neg (show ¬ (a ^ hf p % (p : Int) = 1 ∧ d ^ hf p % (p : Int) = p - 1) from fun z => hd z.2)]
      by_cases d0 : d % (p : Int) = 0
      · rw [if_pos d0]; rfl
      · rw [if_neg d0]
        have := mt (half d d0) hd
        rw [if_pos (Classical.not_not.mp this)]; rfl
  · rw [if_neg (show ¬ (a ^ hf p % (p : Int) = 1 ∧ d ^ hf p % (p : Int) = p - 1) from fun z => ha z.1)]
    by_cases a0 : a % (p : Int) = 0
    · rw [if_pos a0]; rfl
    · rw [if_neg a0, if_neg ha]; rfl
theorem numbers_ok {p : Nat} (h : Pr p) (hn : Nz p) (ns : Ro Int) {at_ : Int} (hat : 0 ≤ at_) : ∃ C : Ev, EvP C ∧ C.p = p ∧ m_u_law_numbers ns at_ (p : Int) = .ok (T2.mk C.a C.d) ∧ C.a ^ hf p % (p : Int) = 1 ∧ C.d ^ hf p % (p : Int) = p - 1 := by
  have P := h.pb
  have h3 := h.ge
  obtain ⟨c0, d0⟩ := cell_ex ns hat
  obtain ⟨c1, d1⟩ := cell_ex ns (show 0 ≤ at_ + 1 by omega)
  have hp1 : (0 : Int) < (p : Int) - 1 := by omega
  obtain ⟨r1, f1, R1⟩ := residue_ok hp1 c0
  obtain ⟨r2, f2, R2⟩ := residue_ok hp1 c1
  have X : Rs p (1 + r1) := ⟨by omega, by omega⟩
  have Y : Rs p (1 + r2) := ⟨by omega, by omega⟩
  have x0 : zm p (1 + r1) ≠ 0 := fun e => by
    have := zm_zero.mp e
    rw [Int.emod_eq_of_lt X.1 X.2] at this; omega
  have y0 : zm p (1 + r2) ≠ 0 := fun e => by
    have := zm_zero.mp e
    rw [Int.emod_eq_of_lt Y.1 Y.2] at this; omega
  have := X.bd
  have := Y.bd
  have hr : okRange (100 : Int) := ⟨by decide, by decide⟩
  have hlen : (pyRange 0 100).length = 100 := by rw [pyRange_len]; rfl
  obtain ⟨q, q1, q2, q3⟩ := hn
  unfold m_u_law_numbers
  simp only [Res.bind_ok, d0, d1, f1, f2, Res.need_pos hr]
  generalize pyRange 0 100 = ks at *
  obtain ⟨l, l1, l2, l3, l4⟩ := ln_loop h q3 (m_u_law_numbers_k3 (p : Int) (1 + r1) (1 + r2)) ks 2 (by decide) q1 (by omega)
  rw [show ((2 : Nat) : Int) = 2 from rfl] at l1
  rw [l1]
  have hb : Bd (l : Int) 8 := ⟨by rw [Int.natAbs_natCast]; omega⟩
  unfold m_u_law_numbers_k3
  simp (decide := true) only [Res.bind_ok, need_bind, need_bd, need_p]
  have ea : ((1 + r1) * (1 + r1) % (p : Int)) ^ hf p % (p : Int) = 1 := by rw [hf_mod]; exact sq_hf h x0
  have ed : ((l : Int) * (1 + r2) * (1 + r2) % (p : Int)) ^ hf p % (p : Int) = p - 1 := by
    rw [hf_mod, Int.mul_assoc, pow_mul_i, em_mul (x := (l : Int) ^ hf p) (u := (p : Int) - 1) (y := ((1 + r2) * (1 + r2)) ^ hf p) (v := 1), Int.mul_one]
    · exact Int.emod_eq_of_lt (by omega) (by omega)
    · rw [l4]; exact (Int.emod_eq_of_lt (by omega) (by omega)).symm
    · rw [sq_hf h y0]; exact (Int.emod_eq_of_lt (by decide) (by omega)).symm
  obtain ⟨C, hC, e1, e2, e3⟩ := ev_ex h (rs_mod ((1 + r1) * (1 + r1))) (rs_mod ((l : Int) * (1 + r2) * (1 + r2))) ea ed
  exact ⟨C, hC, e1, by rw [e2, e3], by rw [e2]; exact ea, by rw [e3]; exact ed⟩
theorem einit_C {C : Ev} [hC : EvP C] (ha : C.a ^ hf C.p % (C.p : Int) = 1) (hd : C.d ^ hf C.p % (C.p : Int) = C.p - 1) : m_EdwardsCurve_init (C.p : Int) C.a C.d = .ok C.o := by
  rw [einit_ok hC.pr, if_pos ⟨ha, hd⟩, Int.emod_eq_of_lt C.A.1 C.A.2, Int.emod_eq_of_lt C.D.1 C.D.2]

/-! ### points of an Edwards curve as the program keeps them -/
abbrev Q2 := T2 Int Int
def ef {C : Ev} (P : C.Pt) : Q2 := T2.mk (zv P.v.1) (zv P.v.2)
def OnD (p : Nat) (a d x y : Int) : Prop := (a * x * x + y * y - 1 - d * x * x * y * y) % (p : Int) = 0
instance (p : Nat) (a d x y : Int) : Decidable (OnD p a d x y) := inferInstanceAs (Decidable (_ = _))
theorem ond_z {p : Nat} {a d x y : Int} : OnD p a d x y ↔ OnE (zm p a) (zm p d) (zm p x, zm p y) := by
  unfold OnD OnE
  rw [← zm_zero]
  simp only [zm_sub, zm_mul, zm_add]
  have e : zm p 1 = 1 := rfl
  rw [e]
  constructor <;> intro h <;> grind
section
variable {C : Ev}
theorem ef_inj {P Q : C.Pt} (h : ef P = ef Q) : P = Q := Ev.ext (Prod.ext (zv_inj (congrArg T2.a h)) (zv_inj (congrArg T2.b h)))
theorem ef_rs (P : C.Pt) : Rs C.p (ef P).a ∧ Rs C.p (ef P).b := ⟨⟨zv_ge _, zv_lt _⟩, ⟨zv_ge _, zv_lt _⟩⟩
theorem ef_v (P : C.Pt) : P.v = (zm C.p (ef P).a, zm C.p (ef P).b) := by
  show P.v = (zm C.p (zv P.v.1), zm C.p (zv P.v.2))
  rw [zm_zv, zm_zv]
theorem ef_on (P : C.Pt) : OnD C.p C.a C.d (ef P).a (ef P).b := ond_z.mpr (by rw [← ef_v]; exact P.on)
theorem ef_ex {x y : Int} (hx : Rs C.p x) (hy : Rs C.p y) (ho : OnD C.p C.a C.d x y) : ∃ P : C.Pt, ef P = T2.mk x y :=
  ⟨⟨(zm C.p x, zm C.p y), ond_z.mp ho⟩, by
    show T2.mk (zv (zm C.p x)) (zv (zm C.p y)) = _
    rw [zv_of hx.1 hx.2, zv_of hy.1 hy.2]⟩
theorem ef_cases (P : C.Pt) : ∃ x y : Int, ef P = T2.mk x y ∧ Rs C.p x ∧ Rs C.p y ∧ OnD C.p C.a C.d x y ∧ P.v = (zm C.p x, zm C.p y) :=
  ⟨_, _, rfl, (ef_rs P).1, (ef_rs P).2, ef_on P, ef_v P⟩
theorem ef_zero : ef (0 : C.Pt) = T2.mk 0 1 := by
  show T2.mk (zv (zm C.p 0)) (zv (zm C.p 1)) = _
  rw [zv_of (by decide) (by have := C.ge; omega), zv_of (by decide) (by have := C.ge; omega)]
theorem qtoD (x y : Int) : toD (T2.mk x y) = D.tup [D.int x, D.int y] := rfl
theorem okq_q2 (q : Q2) : (toD q).okq = true := by obtain ⟨x, y⟩ := q; rfl
theorem nob_q2 (q : Q2) : (toD q).nob = true := by obtain ⟨x, y⟩ := q; rfl
theorem toD_q2_inj {P Q : Q2} (h : toD P = toD Q) : P = Q := by
  obtain ⟨x1, y1⟩ := P
  obtain ⟨x2, y2⟩ := Q
  rw [qtoD, qtoD] at h
  simp only [D.tup.injEq, List.cons.injEq, D.int.injEq, and_true] at h
  rw [h.1, h.2]
theorem pyEq_q2 (P Q : Q2) : pyEq (toD P) (toD Q) = true ↔ P = Q := (pyEq_dec (nob_q2 P) (nob_q2 Q)).trans ⟨toD_q2_inj, fun h => by rw [h]⟩
theorem pyEq_q2r (q : Q2) : pyEq (toD q) (toD q) = true := (pyEq_q2 q q).mpr rfl
noncomputable instance : DecidableEq C.Pt := fun a b => Classical.propDecidable _
theorem pyEq_ef (P Q : C.Pt) : pyEq (toD (ef P)) (toD (ef Q)) = decide (P = Q) := by
  by_cases h : P = Q
  · rw [decide_eq_true h, h]; exact pyEq_q2r _
  · rw [decide_eq_false h]
    cases e : pyEq (toD (ef P)) (toD (ef Q)) with
    | false => rfl
    | true => exact absurd (ef_inj ((pyEq_q2 _ _).mp e)) h
theorem ef_neg (P : C.Pt) : ef (-P) = T2.mk (-(ef P).a % C.p) (ef P).b := by
  have : (-P).v = (-P.v.1, P.v.2) := rfl
  show T2.mk (zv (-P).v.1) (zv (-P).v.2) = _
  rw [this]
  show T2.mk (zv (-P.v.1)) (zv P.v.2) = T2.mk (-(zv P.v.1) % C.p) (zv P.v.2)
  rw [← zv_zm, zm_neg, zm_zv]
theorem eneg_ok [hC : EvP C] (P : C.Pt) : m_EdwardsCurve_negate C.o (ef P) = .ok (ef (-P)) := by
  rw [ef_neg]
  unfold m_EdwardsCurve_negate
  simp only [Res.bind_ok, need_bind, need_p]
theorem ed_t {x1 y1 x2 y2 : Int} : zm C.p (C.d * x1 * x2 * y1 * y2) = zm C.p C.d * zm C.p x1 * zm C.p x2 * zm C.p y1 * zm C.p y2 := by
  simp only [zm_mul]
/-- the sum by its coordinates -/
theorem ef_add (P Q : C.Pt) {i j : Int} (hi : zm C.p i = (1 + zm C.p C.d * P.v.1 * Q.v.1 * P.v.2 * Q.v.2)⁻¹) (hj : zm C.p j = (1 - zm C.p C.d * P.v.1 * Q.v.1 * P.v.2 * Q.v.2)⁻¹) {X Y : Int}
    (hX : zm C.p X = (P.v.1 * Q.v.2 + P.v.2 * Q.v.1) * zm C.p i) (hY : zm C.p Y = (P.v.2 * Q.v.2 - zm C.p C.a * P.v.1 * Q.v.1) * zm C.p j) : ef (P + Q) = T2.mk (X % C.p) (Y % C.p) := by
  have e : (P + Q).v = ((P.v.1 * Q.v.2 + P.v.2 * Q.v.1) * (1 + zm C.p C.d * P.v.1 * Q.v.1 * P.v.2 * Q.v.2)⁻¹, (P.v.2 * Q.v.2 - zm C.p C.a * P.v.1 * Q.v.1) * (1 - zm C.p C.d * P.v.1 * Q.v.1 * P.v.2 * Q.v.2)⁻¹) := rfl
  show T2.mk (zv (P + Q).v.1) (zv (P + Q).v.2) = _
  rw [e, ← hi, ← hj, ← hX, ← hY]
  rfl
theorem ed_nep (P Q : C.Pt) : (1 + zm C.p C.d * P.v.1 * Q.v.1 * P.v.2 * Q.v.2) ≠ 0 := ed_p C.ec P.on Q.on
theorem ed_nem (P Q : C.Pt) : (1 - zm C.p C.d * P.v.1 * Q.v.1 * P.v.2 * Q.v.2) ≠ 0 := ed_m C.ec P.on Q.on
theorem eadd_ok [hC : EvP C] (P Q : C.Pt) : m_EdwardsCurve_add C.o (ef P) (ef Q) = .ok (ef (P + Q)) := by
  obtain ⟨x1, y1, e1, X1, Y1, O1, v1⟩ := ef_cases P
  obtain ⟨x2, y2, e2, X2, Y2, O2, v2⟩ := ef_cases Q
  have n1 := ed_nep P Q
  have n2 := ed_nem P Q
  rw [e1, e2]
  have := X1.bd
  have := X2.bd
  have := Y1.bd
  have := Y2.bd
  have := C.A.bd
  have := C.D.bd
  have E1 : zm C.p (1 + C.d * x1 * x2 * y1 * y2) = 1 + zm C.p C.d * P.v.1 * Q.v.1 * P.v.2 * Q.v.2 := by rw [zm_add, ed_t, v1, v2]; rfl
  have E2 : zm C.p (1 - C.d * x1 * x2 * y1 * y2) = 1 - zm C.p C.d * P.v.1 * Q.v.1 * P.v.2 * Q.v.2 := by rw [zm_sub, ed_t, v1, v2]; rfl
  obtain ⟨i, i1, i2, i3⟩ := pinv_f hC.pr (1 + C.d * x1 * x2 * y1 * y2) (by rw [E1]; exact n1)
  obtain ⟨j, j1, j2, j3⟩ := pinv_f hC.pr (1 - C.d * x1 * x2 * y1 * y2) (by rw [E2]; exact n2)
  have := i2.bd
  have := j2.bd
  unfold m_EdwardsCurve_add
  simp (decide := true) only [Res.bind_ok, need_bind, need_bd, need_p, i1, j1]
  rw [ef_add P Q (i3.trans (by rw [E1])) (j3.trans (by rw [E2])) (X := (x1 * y2 + y1 * x2) * i) (Y := (y1 * y2 - C.a * x1 * x2) * j)]
  · rw [v1, v2, zm_mul, zm_add, zm_mul, zm_mul]
  · rw [v1, v2, zm_mul, zm_sub, zm_mul, zm_mul, zm_mul]
theorem linve_f {p : Nat} [Prm p] (h : Pr p) (x : Int) (hx : zm p x ≠ 0) : ∃ i, m_u_law_inverse x (p : Int) = .ok i ∧ Rs p i ∧ zm p i = (zm p x)⁻¹ := by
  have P := h.pb
  refine ⟨_, linv_ok h x, rs_mod _, ?_⟩
  have a := linv_z h x hx
  have := z_mul_inv hx
  grind
theorem leadd_ok [hC : EvP C] (P Q : C.Pt) : m_u_law_add (C.p : Int) C.a C.d (ef P) (ef Q) = .ok (ef (P + Q)) := by
  obtain ⟨x1, y1, e1, X1, Y1, O1, v1⟩ := ef_cases P
  obtain ⟨x2, y2, e2, X2, Y2, O2, v2⟩ := ef_cases Q
  have n1 := ed_nep P Q
  have n2 := ed_nem P Q
  rw [e1, e2]
  have := X1.bd
  have := X2.bd
  have := Y1.bd
  have := Y2.bd
  have := C.A.bd
  have := C.D.bd
  have E1 : zm C.p (1 + C.d * x1 * x2 * y1 * y2 % C.p) = 1 + zm C.p C.d * P.v.1 * Q.v.1 * P.v.2 * Q.v.2 := by rw [zm_add, zm_mod, ed_t, v1, v2]; rfl
  have E2 : zm C.p (1 - C.d * x1 * x2 * y1 * y2 % C.p) = 1 - zm C.p C.d * P.v.1 * Q.v.1 * P.v.2 * Q.v.2 := by rw [zm_sub, zm_mod, ed_t, v1, v2]; rfl
  obtain ⟨i, i1, i2, i3⟩ := linve_f hC.pr (1 + C.d * x1 * x2 * y1 * y2 % C.p) (by rw [E1]; exact n1)
  obtain ⟨j, j1, j2, j3⟩ := linve_f hC.pr (1 - C.d * x1 * x2 * y1 * y2 % C.p) (by rw [E2]; exact n2)
  have := i2.bd
  have := j2.bd
  unfold m_u_law_add
  simp (decide := true) only [Res.bind_ok, need_bind, need_bd, need_p, i1, j1]
  rw [ef_add P Q (i3.trans (by rw [E1])) (j3.trans (by rw [E2])) (X := (x1 * y2 + y1 * x2) * i) (Y := (y1 * y2 - C.a * x1 * x2) * j)]
  · rw [v1, v2, zm_mul, zm_add, zm_mul, zm_mul]
  · rw [v1, v2, zm_mul, zm_sub, zm_mul, zm_mul, zm_mul]
theorem leon_ok {p : Nat} [Pb p] {a d x y : Int} (ha : Rs p a) (hd : Rs p d) (hx : Rs p x) (hy : Rs p y) : m_u_law_on (p : Int) a d (D.tup [D.int x, D.int y]) = .ok (decide (OnD p a d x y)) := by
  have := ha.bd
  have := hd.bd
  have := hx.bd
  have := hy.bd
  have e1 : (toD (D.tup [D.int x, D.int y])).plain = true := rfl
  have e2 : isI "tuple" (toD (D.tup [D.int x, D.int y])) = true := rfl
  have e3 : D.lenR (D.tup [D.int x, D.int y]) = .ok 2 := rfl
  have e4 : D.asT2 (D.tup [D.int x, D.int y]) = .ok ⟨D.int x, D.int y⟩ := rfl
  have ai : ∀ i, D.asInt (D.int i) = .ok i := fun _ => rfl
  have n2 : (!decide ((2 : Int) = 2)) = false := by decide
  have b1 : ∀ {i : Int}, Rs p i → (decide (0 ≤ i)) = true := fun h => decide_eq_true h.1
  have b2 : ∀ {i : Int}, Rs p i → (decide (i < (p : Int))) = true := fun h => decide_eq_true h.2
  unfold m_u_law_on
  simp (decide := true) only [Res.bind_ok, e1, e2, e3, e4, Res.need_pos e1, Bool.not_true, cond_false, n2, isint_ok, ai, b1 hx, b2 hx, b1 hy, b2 hy, cond_true, need_bind, need_bd, need_p, need_true, decide_true, Bool.not_true, cond_false]
  rfl
theorem leon_ef [hC : EvP C] (P : C.Pt) : m_u_law_on (C.p : Int) C.a C.d (toD (ef P)) = .ok true := by
  obtain ⟨x, y, e, X, Y, O, v⟩ := ef_cases P
  rw [e, qtoD, leon_ok C.A C.D X Y, decide_eq_true O]
/-- no divisor of a lift is 0 -/
theorem ed_div {y : Zp C.p} : zm C.p C.d * (y * y) - zm C.p C.a ≠ 0 := by
  intro e
  obtain ⟨r, hr, r0⟩ := C.ec.sq
  have y0 : y ≠ 0 := by
    intro z
    subst z
    have : r * r = 0 := by rw [hr]; grind
    rcases z_dom C.pr this with q | q <;> exact r0 q
  have iv := z_mul_inv y0
  apply C.ec.non (r * y⁻¹)
  have : zm C.p C.d * (y * y) = r * r := by rw [hr]; grind
  have t : r * y⁻¹ * (r * y⁻¹) = (r * r) * (y⁻¹ * y⁻¹) := by grind
  rw [t, ← this]
  have u : zm C.p C.d * (y * y) * (y⁻¹ * y⁻¹) = zm C.p C.d * ((y * y⁻¹) * (y * y⁻¹)) := by grind
  rw [u, iv]; grind
theorem z_cm {p : Nat} (x y : Zp p) : x * y = y * x := by grind
theorem el_alg {p : Nat} {a d x y s i : Zp p} (hi : i * (d * (y * y) - a) = 1) (hs : s = (y * y - 1) * i) (hx : x * x = s) : a * x * x + y * y = 1 + d * x * x * y * y := by
  have : s * (d * (y * y) - a) = y * y - 1 := by
    rw [hs]
    have : (y * y - 1) * i * (d * (y * y) - a) = (y * y - 1) * (i * (d * (y * y) - a)) := by grind
    rw [this, hi]; grind
  rw [← hx] at this
  grind
/-- what a lift gives: nothing, if no x is there; or a point with this y -/
theorem elift_ok [hC : EvP C] {y : Int} (hy : Rs C.p y) (odd : Bool) : ∃ s : Int, zm C.p s = (zm C.p y * zm C.p y - 1) * (zm C.p C.d * (zm C.p y * zm C.p y) - zm C.p C.a)⁻¹ ∧ ((m_EdwardsCurve_lift C.o y odd = .ok none ∧ (s % C.p ≠ 0 ∧ s ^ hf C.p % C.p = C.p - 1 ∨ s % C.p = 0 ∧ odd = true)) ∨
    ∃ (x : Int) (P : C.Pt), m_EdwardsCurve_lift C.o y odd = .ok (some (T2.mk x y)) ∧ ef P = T2.mk x y ∧ x * x % C.p = s % C.p ∧ decide (x % 2 = 1) = odd) := by
  have := hy.bd
  have := C.A.bd
  have := C.D.bd
  have E1 : zm C.p (C.d * y ^ 2 - C.a) = zm C.p C.d * (zm C.p y * zm C.p y) - zm C.p C.a := by
    rw [ipow2, zm_sub, zm_mul, zm_mul]
  obtain ⟨i, i1, i2, i3⟩ := pinv_f hC.pr (C.d * y ^ 2 - C.a) (by rw [E1]; exact ed_div)
  have := i2.bd
  have o1 : ∀ r : Int, (toD (some r)).isNon = false := fun _ => rfl
  have o2 : (toD (none : Option Int)).isNon = true := rfl
  have b1 : (!decide (0 ≤ y ∧ y < (C.p : Int))) = false := by rw [decide_eq_true (show 0 ≤ y ∧ y < (C.p : Int) from hy)]; rfl
  have ty : toD y = D.int y := rfl
  have S : zm C.p ((y ^ 2 - 1) * i) = (zm C.p y * zm C.p y - 1) * (zm C.p C.d * (zm C.p y * zm C.p y) - zm C.p C.a)⁻¹ := by
    rw [zm_mul, zm_sub, ipow2, zm_mul, i3, E1]; rfl
  refine ⟨(y ^ 2 - 1) * i, S, ?_⟩
  unfold m_EdwardsCurve_lift
  simp (decide := true) only [Res.bind_ok, ty, isres_int, b1, cond_false, need_bind, need_bd, need_p, need_pw2, tn2, i1]
  rcases rwp_ok hC.pr ((y ^ 2 - 1) * i) odd with ⟨q1, q2⟩ | ⟨r, q1, q2, q3, q4, q5⟩
  · simp only [q1, Res.bind_ok, o2, cond_true]
    exact .inl ⟨trivial, q2⟩
  · have ag : ∀ r : Int, optGet (some r) = .ok r := fun _ => rfl
    have tr : toD r = D.int r := rfl
    simp only [q1, Res.bind_ok, o1, cond_false, ag]
    have hd := ed_div (C := C) (y := zm C.p y)
    have iv := z_mul_inv hd
    have sq := zm_eq.mpr q4
    rw [zm_mul] at sq
    obtain ⟨P, hP⟩ := ef_ex (C := C) (x := r) (y := y) ⟨q2, q3⟩ hy (ond_z.mpr (el_alg (i := (zm C.p C.d * (zm C.p y * zm C.p y) - zm C.p C.a)⁻¹) (by rw [z_cm]; exact iv) S sq))
    exact .inr ⟨r, P, rfl, hP, q4, q5⟩
theorem elift_out {y : Int} (hy : ¬ Rs C.p y) (odd : Bool) : m_EdwardsCurve_lift C.o y odd = .ok none := by
  have b1 : (!decide (0 ≤ y ∧ y < (C.p : Int))) = true := by rw [decide_eq_false (show ¬ (0 ≤ y ∧ y < (C.p : Int)) from hy)]; rfl
  have ty : toD y = D.int y := rfl
  unfold m_EdwardsCurve_lift
  simp only [Res.bind_ok, ty, isres_int, b1, cond_true]
theorem ehas_pair [hC : EvP C] {x y : Int} (hx : Rs C.p x) (hy : Rs C.p y) : m_EdwardsCurve_has C.o (D.tup [D.int x, D.int y]) = .ok (decide (OnD C.p C.a C.d x y)) := by
  have := hx.bd
  have := hy.bd
  have := C.A.bd
  have := C.D.bd
  have e4 : D.asTu (D.tup [D.int x, D.int y]) = .ok ⟨[D.int x, D.int y]⟩ := rfl
  have i0 : idx [D.int x, D.int y] (0 : Int) = .ok (D.int x) := rfl
  have i1 : idx [D.int x, D.int y] (1 : Int) = .ok (D.int y) := rfl
  have ai : ∀ i, D.asInt (D.int i) = .ok i := fun _ => rfl
  have px := pair_two (isres_int x C.p) (isres_int y C.p)
  rw [decide_eq_true (show 0 ≤ x ∧ x < (C.p : Int) from hx), decide_eq_true (show 0 ≤ y ∧ y < (C.p : Int) from hy)] at px
  unfold m_EdwardsCurve_has
  simp (decide := true) only [Res.bind_ok, px, Bool.and_true, Bool.not_true, cond_false, e4, i0, i1, ai, need_bind, need_bd, need_p, need_pw2, tn2]
  congr 1
  refine decide_eq_decide.mpr ?_
  unfold OnD
  rw [ipow2, ipow2, ← Int.mul_assoc, ← Int.mul_assoc, ← Int.mul_assoc]
theorem ehas_no {x : D} (h : m_is_residue_pair x (C.p : Int) = .ok false) : m_EdwardsCurve_has C.o x = .ok false := by
  unfold m_EdwardsCurve_has
  simp only [Res.bind_ok, toD_D, h, Bool.not_false, cond_true]
/-- the law's points -/
theorem ef_two [hC : EvP C] : ∃ P : C.Pt, ef P = T2.mk 0 ((C.p : Int) - 1) := by
  refine ef_ex ⟨by decide, by have := C.ge; omega⟩ ⟨by have := C.ge; omega, by omega⟩ ?_
  rw [ond_z]
  have e1 : zm C.p ((C.p : Int) - 1) = -1 := by
    rw [zm_sub, show zm C.p (C.p : Int) = 0 from zm_zero.mpr (Int.emod_self)]
    show (0 : Zp C.p) - 1 = -1
    grind
  rw [e1]
  show zm C.p C.a * 0 * 0 + -1 * -1 = 1 + zm C.p C.d * 0 * 0 * -1 * -1
  grind
theorem elifted_loop [hC : EvP C] (k : Unit → Res Q2) {S : C.Pt} (hk : k () = .ok (ef S)) (cell y : Int) : ∀ ks : List Int, ∃ R : C.Pt, m_u_law_lifted_l1 C.o (C.p : Int) C.a C.d cell y k ks () = .ok (ef R)
  | [] => ⟨S, by rw [m_u_law_lifted_l1]; exact hk⟩
  | i :: r => by
    obtain ⟨R, hR⟩ := elifted_loop k hk cell y r
    rw [m_u_law_lifted_l1]
    simp (decide := true) only [Res.bind_ok, need_bind, need_p]
    obtain ⟨s, hs, q⟩ := elift_ok (C := C) (rs_mod (y + i)) (decide ((cell.natAbs : Int) / 2 % 2 = 1))
    rcases q with ⟨q, _⟩ | ⟨x, T, q, hT, _⟩
    · have n0 : (toD (none : Option Q2)).isNon = true := rfl
      simp only [q, Res.bind_ok, n0, Bool.not_true, cond_false]
      exact ⟨R, hR⟩
    · have n1 : (toD (some (T2.mk x ((y + i) % (C.p : Int))))).isNon = false := rfl
      have t1 : toD (some (T2.mk x ((y + i) % (C.p : Int)))) = toD (ef T) := by rw [hT]; rfl
      have og : optGet (some (T2.mk x ((y + i) % (C.p : Int)))) = .ok (T2.mk x ((y + i) % (C.p : Int))) := rfl
      simp only [q, Res.bind_ok, n1, Bool.not_false, cond_true, og]
      rw [t1, leon_ef]
      simp only [Res.bind_ok, cond_true]
      exact ⟨T, by rw [hT]⟩
theorem elifted_ok [hC : EvP C] (cell : Int) : ∃ R : C.Pt, m_u_law_lifted C.o (C.p : Int) C.a C.d cell = .ok (ef R) := by
  have hp := hC.pr.pos
  obtain ⟨x, e, X⟩ := residue_ok hp cell
  have hr : okRange (10 : Int) := ⟨by decide, by decide⟩
  obtain ⟨S, hS⟩ := ef_two (C := C)
  unfold m_u_law_lifted
  simp only [Res.bind_ok, e, Res.need_pos hr]
  refine elifted_loop _ (S := S) ?_ cell _ _
  unfold m_u_law_lifted_k2
  simp only [Res.bind_ok]
  rw [hS]
end

/-! ### both shapes of a curve -/
section
variable (C : Ev)
noncomputable def Ev.c : Zp C.p := (zm C.p C.a - zm C.p C.d) * (4 : Zp C.p)⁻¹
noncomputable def Ev.e : Zp C.p := (zm C.p C.a + zm C.p C.d) * (6 : Zp C.p)⁻¹
end
section
variable {C : Ev} (h5 : 5 ≤ C.p)
include h5
theorem n2 : (2 : Zp C.p) ≠ 0 := z_ne_num 2 (by decide) (by omega)
theorem n3 : (3 : Zp C.p) ≠ 0 := z_ne_num 3 (by decide) (by omega)
theorem n4 : (4 : Zp C.p) ≠ 0 := z_ne_num 4 (by decide) (by omega)
theorem n6 : (6 : Zp C.p) ≠ 0 := by
  have : (6 : Zp C.p) = 2 * 3 := by grind
  rw [this]; exact z_mul_ne C.pr (n2 h5) (n3 h5)
theorem ce_a : 3 * C.e + 2 * C.c = zm C.p C.a := by
  have i4 := z_mul_inv (n4 h5)
  have i6 := z_mul_inv (n6 h5)
  unfold Ev.c Ev.e
  generalize (4 : Zp C.p)⁻¹ = q at *
  generalize (6 : Zp C.p)⁻¹ = s at *
  generalize zm C.p C.a = a at *
  generalize zm C.p C.d = d at *
  have : 2 * (3 * ((a + d) * s) + 2 * ((a - d) * q)) = 2 * a := by grind
  have := Lean.Grind.Field.mul_inv_cancel (n2 h5)
  generalize (2 : Zp C.p)⁻¹ = t at *
  grind
theorem ce_d : 3 * C.e - 2 * C.c = zm C.p C.d := by
  have i4 := z_mul_inv (n4 h5)
  have i6 := z_mul_inv (n6 h5)
  unfold Ev.c Ev.e
  generalize (4 : Zp C.p)⁻¹ = q at *
  generalize (6 : Zp C.p)⁻¹ = s at *
  generalize zm C.p C.a = a at *
  generalize zm C.p C.d = d at *
  have : 2 * (3 * ((a + d) * s) - 2 * ((a - d) * q)) = 2 * d := by grind
  have := Lean.Grind.Field.mul_inv_cancel (n2 h5)
  generalize (2 : Zp C.p)⁻¹ = t at *
  grind
theorem esC : EsC C.c C.e := ⟨by rw [ce_a h5, ce_d h5]; exact C.ec⟩
theorem es_ns : NoSing (wA C.c C.e) (wB C.c C.e) := by
  have c0 := (esC h5).c0
  obtain ⟨r, hr, r0⟩ := (esC h5).ed.sq
  have nd := (esC h5).ed.non
  have d0 : 3 * C.e - 2 * C.c ≠ 0 := fun q => nd 0 (by rw [q]; grind)
  intro q
  have q : 4 * (C.c * C.c - 3 * C.e * C.e) * (C.c * C.c - 3 * C.e * C.e) * (C.c * C.c - 3 * C.e * C.e) + 27 * (2 * C.e * C.e * C.e - C.c * C.c * C.e) * (2 * C.e * C.e * C.e - C.c * C.c * C.e) = 0 := q
  have : C.c * (C.c * (C.c * (C.c * ((3 * C.e - 2 * C.c) * (r * r))))) = 0 := by rw [hr]; grind
  exact z_mul_ne C.pr c0 (z_mul_ne C.pr c0 (z_mul_ne C.pr c0 (z_mul_ne C.pr c0 (z_mul_ne C.pr d0 (z_mul_ne C.pr r0 r0))))) this
noncomputable def wcv : Cv := ⟨C.p, zv (wA C.c C.e), zv (wB C.c C.e), C.pr, h5, zv_ge _, zv_lt _, zv_ge _, zv_lt _, by rw [zm_zv, zm_zv]; exact es_ns h5⟩
end
theorem val_eq {p : Nat} {x : Int} {v : Zp p} (h : zm p x = v) : x % (p : Int) = zv v := by subst h; rfl
section
variable {C : Ev} [hC : EvP C] (h5 : 5 ≤ C.p)
include h5
theorem inv_ad : (zm C.p (C.a - C.d))⁻¹ = C.c⁻¹ * (4 : Zp C.p)⁻¹ ∧ zm C.p (C.a - C.d) ≠ 0 := by
  have c0 := (esC h5).c0
  have k : zm C.p (C.a - C.d) = 4 * C.c := by rw [zm_sub, ← ce_a h5, ← ce_d h5]; grind
  have n : zm C.p (C.a - C.d) ≠ 0 := by rw [k]; exact z_mul_ne C.pr (n4 h5) c0
  refine ⟨?_, n⟩
  have i := z_mul_inv n
  have ic := z_mul_inv c0
  have i4 := z_mul_inv (n4 h5)
  rw [k] at i ⊢
  generalize (4 * C.c)⁻¹ = w at *
  generalize C.c⁻¹ = u at *
  generalize (4 : Zp C.p)⁻¹ = q at *
  grind
theorem mnum_ok : m_montgomery_numbers C.o = .ok (T2.mk (zv (3 * C.e * C.c⁻¹)) (zv C.c⁻¹)) := by
  have h := hC.pr
  obtain ⟨iv, n⟩ := inv_ad h5
  obtain ⟨i, ei, ri, zi⟩ := pinv_f h (C.a - C.d) n
  have := ri.bd
  have := C.A.bd
  have := C.D.bd
  have i4 := z_mul_inv (n4 h5)
  have e1 : 2 * (C.a + C.d) * i % (C.p : Int) = zv (3 * C.e * C.c⁻¹) := val_eq (by
    rw [zm_mul, zm_mul, zm_add, zi, iv, ← ce_a h5, ← ce_d h5, show zm C.p 2 = 2 from rfl]
    generalize (4 : Zp C.p)⁻¹ = q at *
    grind)
  have e2 : 4 * i % (C.p : Int) = zv C.c⁻¹ := val_eq (by
    rw [zm_mul, zi, iv, show zm C.p 4 = 4 from rfl]
    generalize (4 : Zp C.p)⁻¹ = q at *
    grind)
  unfold m_montgomery_numbers
  simp (decide := true) only [Res.bind_ok, ei, need_bind, need_bd, need_p, e1, e2]
theorem ldue_ok : m_u_law_numbers_due (C.p : Int) C.a C.d = .ok (T2.mk (zv (3 * C.e * C.c⁻¹)) (zv C.c⁻¹)) := by
  have h := hC.pr
  obtain ⟨iv, n⟩ := inv_ad h5
  obtain ⟨i, ei, ri, zi⟩ := linve_f h (C.a - C.d) n
  have := ri.bd
  have := C.A.bd
  have := C.D.bd
  have i4 := z_mul_inv (n4 h5)
  have e1 : 2 * (C.a + C.d) * i % (C.p : Int) = zv (3 * C.e * C.c⁻¹) := val_eq (by
    rw [zm_mul, zm_mul, zm_add, zi, iv, ← ce_a h5, ← ce_d h5, show zm C.p 2 = 2 from rfl]
    generalize (4 : Zp C.p)⁻¹ = q at *
    grind)
  have e2 : 4 * i % (C.p : Int) = zv C.c⁻¹ := val_eq (by
    rw [zm_mul, zi, iv, show zm C.p 4 = 4 from rfl]
    generalize (4 : Zp C.p)⁻¹ = q at *
    grind)
  unfold m_u_law_numbers_due
  simp (decide := true) only [Res.bind_ok, ei, need_bind, need_bd, need_p, e1, e2]
end
section
variable {C : Ev} [hC : EvP C] (h5 : 5 ≤ C.p)
noncomputable abbrev Ev.big (C : Ev) : Int := zv (3 * C.e * C.c⁻¹)
noncomputable abbrev Ev.small (C : Ev) : Int := zv C.c⁻¹
omit hC in
theorem rs_zv (v : Zp C.p) : Rs C.p (zv v) := ⟨zv_ge _, zv_lt _⟩
omit hC in
include h5 in
theorem c_inv : C.c * C.c⁻¹ = 1 := z_mul_inv (esC h5).c0
omit hC in
include h5 in
theorem ci_ne : C.c⁻¹ ≠ 0 := by
  have := c_inv h5
  intro q
  rw [q] at this
  exact (n2 h5) (by grind)
omit hC in
theorem sh_a {c e u w : Zp C.p} (hc : c * u = 1) (hw : 3 * (u * u) * w = 1) : (3 - 3 * e * u * (3 * e * u)) * w = wA c e := by
  unfold wA
  have : 3 * w = c * c := by grind
  grind
omit hC in
theorem sh_b {c e u w : Zp C.p} (hc : c * u = 1) (hw : 27 * (u * u * u) * w = 1) : (2 * (3 * e * u * (3 * e * u) * (3 * e * u)) - 9 * (3 * e * u)) * w = wB c e := by
  unfold wB
  have : 27 * w = c * c * c := by grind
  grind
theorem pow_2 (x : Int) : x ^ 2 = x * x := ipow2 x
theorem pow_3 (x : Int) : x ^ 3 = x * x * x := by rw [Int.pow_succ, ipow2]
omit hC in
include h5 in
theorem sh_n3 : zm C.p (3 * (C.small * C.small)) ≠ 0 := by
  rw [zm_mul, zm_mul, zm_zv]
  exact z_mul_ne C.pr (n3 h5) (z_mul_ne C.pr (ci_ne h5) (ci_ne h5))
omit hC in
include h5 in
theorem sh_n27 : zm C.p (27 * (C.small * C.small * C.small)) ≠ 0 := by
  rw [zm_mul, zm_mul, zm_mul, zm_zv]
  have : zm C.p 27 = 3 * 3 * 3 := by show (27 : Zp C.p) = 3 * 3 * 3; grind
  rw [this]
  have := n3 h5
  have := ci_ne h5
  exact z_mul_ne C.pr (z_mul_ne C.pr (z_mul_ne C.pr ‹_› ‹_›) ‹_›) (z_mul_ne C.pr (z_mul_ne C.pr ‹_› ‹_›) ‹_›)
theorem wof_ok : m_weierstrass_of C.o = .ok (wcv h5).o := by
  have h := hC.pr
  obtain ⟨i, ei, ri, zi⟩ := pinv_f h _ (sh_n3 h5)
  obtain ⟨j, ej, rj, zj⟩ := pinv_f h _ (sh_n27 h5)
  have := ri.bd
  have := rj.bd
  have := (rs_zv (3 * C.e * C.c⁻¹)).bd
  have := (rs_zv C.c⁻¹).bd
  have hp : decide ((C.p : Int) < 5) = false := decide_eq_false (by omega)
  have k3 := z_mul_inv (sh_n3 h5)
  have k27 := z_mul_inv (sh_n27 h5)
  rw [← zi, zm_mul, zm_mul, zm_zv] at k3
  rw [← zj, zm_mul, zm_mul, zm_mul, zm_zv] at k27
  have ea : (3 - C.big * C.big) * i % (C.p : Int) = zv (wA C.c C.e) := val_eq (by
    rw [zm_mul, zm_sub, zm_mul, zm_zv, show zm C.p 3 = 3 from rfl]
    exact sh_a (c_inv h5) k3)
  have eb : (2 * (C.big * C.big * C.big) - 9 * C.big) * j % (C.p : Int) = zv (wB C.c C.e) := val_eq (by
    rw [zm_mul, zm_sub, zm_mul, zm_mul, zm_mul, zm_mul, zm_zv, show zm C.p 2 = 2 from rfl, show zm C.p 9 = 9 from rfl]
    exact sh_b (c_inv h5) k27)
  have ini : m_Curve_init (C.p : Int) ((3 - C.big * C.big) * i) ((2 * (C.big * C.big * C.big) - 9 * C.big) * j) = .ok (wcv h5).o := by
    rw [init_ok h h5, ea, eb, if_neg]
    · rfl
    · intro e
      apply (wcv h5).ns
      have e := zm_zero.mpr e
      rw [pow_3, pow_2, zm_add, zm_mul, zm_mul, zm_mul, zm_mul, zm_mul] at e
      have e : (4 : Zp C.p) * (zm C.p (zv (wA C.c C.e)) * zm C.p (zv (wA C.c C.e)) * zm C.p (zv (wA C.c C.e))) + (27 : Zp C.p) * (zm C.p (zv (wB C.c C.e)) * zm C.p (zv (wB C.c C.e))) = 0 := e
      show (4 : Zp C.p) * zm C.p (zv (wA C.c C.e)) * zm C.p (zv (wA C.c C.e)) * zm C.p (zv (wA C.c C.e)) + 27 * zm C.p (zv (wB C.c C.e)) * zm C.p (zv (wB C.c C.e)) = 0
      grind
  have tn2 : (2 : Int).toNat = 2 := rfl
  have tn3 : (3 : Int).toNat = 3 := rfl
  unfold m_weierstrass_of m_u_check_prime
  simp (decide := true) only [Res.bind_ok, hp, cond_false, mnum_ok h5, need_bind, need_bd, need_pw2, need_pw3, tn2, tn3, pow_2, pow_3, ei, ej, ini]
theorem shape_ok : m_u_law_shape (C.p : Int) C.big C.small = .ok (T2.mk (wcv h5).a (wcv h5).b) := by
  have h := hC.pr
  have a3 : 3 * C.small * C.small = 3 * (C.small * C.small) := by grind
  have a27 : 27 * C.small * C.small * C.small = 27 * (C.small * C.small * C.small) := by grind
  obtain ⟨i, ei, ri, zi⟩ := linve_f h _ (sh_n3 h5)
  obtain ⟨j, ej, rj, zj⟩ := linve_f h _ (sh_n27 h5)
  rw [← a3] at ei
  rw [← a27] at ej
  have := ri.bd
  have := rj.bd
  have := (rs_zv (3 * C.e * C.c⁻¹)).bd
  have := (rs_zv C.c⁻¹).bd
  have k3 := z_mul_inv (sh_n3 h5)
  have k27 := z_mul_inv (sh_n27 h5)
  rw [← zi, zm_mul, zm_mul, zm_zv] at k3
  rw [← zj, zm_mul, zm_mul, zm_mul, zm_zv] at k27
  have ea : (3 - C.big * C.big) * i % (C.p : Int) = zv (wA C.c C.e) := val_eq (by
    rw [zm_mul, zm_sub, zm_mul, zm_zv, show zm C.p 3 = 3 from rfl]
    exact sh_a (c_inv h5) k3)
  have eb : (2 * C.big * C.big * C.big - 9 * C.big) * j % (C.p : Int) = zv (wB C.c C.e) := val_eq (by
    rw [show (2 * C.big * C.big * C.big : Int) = 2 * (C.big * C.big * C.big) by grind, zm_mul, zm_sub, zm_mul, zm_mul, zm_mul, zm_mul, zm_zv, show zm C.p 2 = 2 from rfl, show zm C.p 9 = 9 from rfl]
    exact sh_b (c_inv h5) k27)
  unfold m_u_law_shape
  simp (decide := true) only [Res.bind_ok, need_bind, need_bd, need_p, ei, ej, ea, eb]
  rfl
end
section
variable {C : Ev} [hC : EvP C] (h5 : 5 ≤ C.p)
include h5 in
omit hC in
theorem onP (P : C.Pt) : OnE (3 * C.e + 2 * C.c) (3 * C.e - 2 * C.c) P.v := by rw [ce_a h5, ce_d h5]; exact P.on
noncomputable def psiP (P : C.Pt) : (wcv h5).Pt := ⟨psi C.c C.e P.v, by
  show OnC (zm C.p (zv (wA C.c C.e))) (zm C.p (zv (wB C.c C.e))) _
  rw [zm_zv, zm_zv]; exact psi_on (esC h5) (onP h5 P)⟩
open Classical in
noncomputable def tmv (v : Zp C.p × Zp C.p) : P2 := if v.1 = 0 then (if v.2 = 1 then none else some (T2.mk 0 0)) else some (T2.mk (zv ((1 + v.2) * (1 - v.2)⁻¹)) (zv ((1 + v.2) * (1 - v.2)⁻¹ * v.1⁻¹)))
theorem z_eq0 {x : Int} (hx : Rs C.p x) : zm C.p x = 0 ↔ x = 0 := by
  rw [zm_zero, Int.emod_eq_of_lt hx.1 hx.2]
theorem z_eq1 {x : Int} (hx : Rs C.p x) : zm C.p x = 1 ↔ x = 1 := by
  have h1 : zm C.p 1 = 1 := rfl
  have := hC.pr.ge
  constructor
  · intro e
    rw [← h1, zm_eq, Int.emod_eq_of_lt hx.1 hx.2, Int.emod_eq_of_lt (by decide) (by omega)] at e
    exact e
  · rintro rfl; rfl
theorem tmv_cases {x y : Int} (hx : Rs C.p x) (hy : Rs C.p y) : tmv (C := C) (zm C.p x, zm C.p y) = if x = 0 then (if y = 1 then none else some (T2.mk 0 0)) else some (T2.mk (zv ((1 + zm C.p y) * (1 - zm C.p y)⁻¹)) (zv ((1 + zm C.p y) * (1 - zm C.p y)⁻¹ * (zm C.p x)⁻¹))) := by
  unfold tmv
  by_cases c : x = 0
  · rw [if_pos c, if_pos ((z_eq0 hx).mpr c)]
    by_cases d : y = 1
    · rw [if_pos d, if_pos ((z_eq1 hy).mpr d)]
    · rw [if_neg d, if_neg (mt (z_eq1 hy).mp d)]
  · rw [if_neg c, if_neg (mt (z_eq0 hx).mp c)]
include h5 in
theorem tom_ok (P : C.Pt) : m_to_montgomery C.o (ef P) = .ok (tmv P.v) := by
  have h := hC.pr
  obtain ⟨x, y, e, X, Y, O, v⟩ := ef_cases P
  have o := onP h5 P
  have := X.bd
  have := Y.bd
  rw [e, v, tmv_cases X Y]
  rw [v] at o
  unfold m_to_montgomery
  simp only [Res.bind_ok]
  by_cases c : x = 0
  · rw [decide_eq_true c, cond_true, if_pos c]
    by_cases d : y = 1
    · rw [decide_eq_true d, cond_true, if_pos d]
    · rw [decide_eq_false d, cond_false, if_neg d]
  · rw [decide_eq_false c, cond_false, if_neg c]
    have zx := mt (z_eq0 X).mp c
    obtain ⟨m, _⟩ := e_ym (esC h5) o zx
    obtain ⟨i, ei, ri, zi⟩ := pinv_f h (1 - y) (by rw [zm_sub]; exact m)
    obtain ⟨j, ej, rj, zj⟩ := pinv_f h x zx
    have := ri.bd
    have := rj.bd
    have eu : (1 + y) * i % (C.p : Int) = zv ((1 + zm C.p y) * (1 - zm C.p y)⁻¹) := val_eq (by
      rw [zm_mul, zm_add, zi, zm_sub]; rfl)
    have := (rs_zv ((1 + zm C.p y) * (1 - zm C.p y)⁻¹)).bd
    have ev : zv ((1 + zm C.p y) * (1 - zm C.p y)⁻¹) * j % (C.p : Int) = zv ((1 + zm C.p y) * (1 - zm C.p y)⁻¹ * (zm C.p x)⁻¹) := val_eq (by
      rw [zm_mul, zm_zv, zj])
    simp (decide := true) only [ei, ej, Res.bind_ok, need_bind, need_bd, need_p, eu, ev]
include h5 in
theorem ltom_ok (P : C.Pt) : m_u_law_montgomery (C.p : Int) C.a C.d (ef P) = .ok (tmv P.v) := by
  have h := hC.pr
  obtain ⟨x, y, e, X, Y, O, v⟩ := ef_cases P
  have o := onP h5 P
  have := X.bd
  have := Y.bd
  rw [e, v, tmv_cases X Y]
  rw [v] at o
  unfold m_u_law_montgomery
  simp only [Res.bind_ok]
  by_cases c : x = 0
  · rw [decide_eq_true c, cond_true, if_pos c]
    by_cases d : y = 1
    · rw [decide_eq_true d, if_pos d]; rfl
    · rw [decide_eq_false d, if_neg d]; rfl
  · rw [decide_eq_false c, cond_false, if_neg c]
    have zx := mt (z_eq0 X).mp c
    obtain ⟨m, _⟩ := e_ym (esC h5) o zx
    obtain ⟨i, ei, ri, zi⟩ := linve_f h (1 - y) (by rw [zm_sub]; exact m)
    obtain ⟨j, ej, rj, zj⟩ := linve_f h x zx
    have := ri.bd
    have := rj.bd
    have eu : (1 + y) * i % (C.p : Int) = zv ((1 + zm C.p y) * (1 - zm C.p y)⁻¹) := val_eq (by
      rw [zm_mul, zm_add, zi, zm_sub]; rfl)
    have := (rs_zv ((1 + zm C.p y) * (1 - zm C.p y)⁻¹)).bd
    have ev : zv ((1 + zm C.p y) * (1 - zm C.p y)⁻¹) * j % (C.p : Int) = zv ((1 + zm C.p y) * (1 - zm C.p y)⁻¹ * (zm C.p x)⁻¹) := val_eq (by
      rw [zm_mul, zm_zv, zj])
    simp (decide := true) only [ei, ej, Res.bind_ok, need_bind, need_bd, need_p, eu, ev]
/-- from the Montgomery pair to the short curve's point -/
noncomputable def upW (uv : Zp C.p × Zp C.p) : Zp C.p × Zp C.p := (uv.1 * C.c + C.e, uv.2 * C.c)
include h5 in
theorem tow_pair {u v : Int} (hu : Rs C.p u) (hv : Rs C.p v) (k : Int) : ∃ s t : Int, m_inverse C.small (C.p : Int) = .ok s ∧ m_inverse 3 (C.p : Int) = .ok t ∧ Rs C.p s ∧ Rs C.p t ∧ (u + C.big * t) * s % (C.p : Int) = zv (zm C.p u * C.c + C.e) ∧ v * s % (C.p : Int) = zv (zm C.p v * C.c) := by
  have h := hC.pr
  obtain ⟨s, es, rs, zs⟩ := pinv_f h C.small (by rw [zm_zv]; exact ci_ne h5)
  obtain ⟨t, et, rt, zt⟩ := pinv_f h 3 (show zm C.p 3 ≠ 0 from n3 h5)
  have ic := c_inv h5
  have i3 := z_mul_inv (n3 h5)
  have zs : zm C.p s = C.c := by
    rw [zs, zm_zv]
    have := z_mul_inv (ci_ne h5)
    grind
  refine ⟨s, t, es, et, rs, rt, val_eq ?_, val_eq ?_⟩
  · rw [zm_mul, zm_add, zm_mul, zm_zv, zs, zt, show zm C.p 3 = 3 from rfl]
    generalize (3 : Zp C.p)⁻¹ = w at *
    generalize C.c⁻¹ = q at *
    grind
  · rw [zm_mul, zs]
theorem tow_ok (P : C.Pt) : m_to_weierstrass C.o (ef P) = .ok (lf (psiP h5 P)) := by
  have hp : decide ((C.p : Int) < 5) = false := decide_eq_false (by omega)
  have tm := tom_ok h5 P
  obtain ⟨x, y, e, X, Y, O, v⟩ := ef_cases P
  unfold m_to_weierstrass m_u_check_prime
  simp only [Res.bind_ok, hp, cond_false, tm]
  have o := onP h5 P
  rw [v] at o
  have L : lf (psiP h5 P) = lfv (psi C.c C.e (zm C.p x, zm C.p y)) := by rw [← v]; rfl
  rw [L, v, tmv_cases X Y, psi_eq]
  have n0 : (toD (none : P2)).isNon = true := rfl
  have n1 : ∀ q : T2 Int Int, (toD (some q)).isNon = false := fun _ => rfl
  have og : ∀ q : T2 Int Int, optGet (some q) = .ok q := fun _ => rfl
  by_cases c : x = 0
  · rw [if_pos c, if_pos ((z_eq0 X).mpr c)]
    by_cases d : y = 1
    · rw [if_pos d, if_pos ((z_eq1 Y).mpr d)]
      simp only [n0, cond_true]
      rfl
    · rw [if_neg d, if_neg (mt (z_eq1 Y).mp d)]
      have r0 : Rs C.p 0 := ⟨by decide, by omega⟩
      obtain ⟨s, t, es, et, rs, rt, e1, e2⟩ := tow_pair h5 r0 r0 0
      have := rs.bd
      have := rt.bd
      have := (rs_zv (3 * C.e * C.c⁻¹)).bd
      simp (decide := true) only [n1, cond_false, mnum_ok h5, Res.bind_ok, es, et, og, need_bind, need_bd, need_p, e1, e2]
      show Res.ok (some (T2.mk (zv (0 * C.c + C.e)) (zv (0 * C.c)))) = Res.ok (some (T2.mk (zv C.e) (zv 0)))
      rw [show (0 : Zp C.p) * C.c + C.e = C.e by grind, show (0 : Zp C.p) * C.c = 0 by grind]
  · rw [if_neg c, if_neg (mt (z_eq0 X).mp c)]
    have ru := rs_zv ((1 + zm C.p y) * (1 - zm C.p y)⁻¹)
    have rw_ := rs_zv ((1 + zm C.p y) * (1 - zm C.p y)⁻¹ * (zm C.p x)⁻¹)
    obtain ⟨s, t, es, et, rs, rt, e1, e2⟩ := tow_pair h5 ru rw_ 0
    have := rs.bd
    have := rt.bd
    have := ru.bd
    have := rw_.bd
    have := (rs_zv (3 * C.e * C.c⁻¹)).bd
    simp (decide := true) only [n1, cond_false, mnum_ok h5, Res.bind_ok, es, et, og, need_bind, need_bd, need_p, e1, e2]
    rw [zm_zv, zm_zv]
    show Res.ok (some (T2.mk (zv _) (zv _))) = Res.ok (some (T2.mk (zv (C.c * (1 + zm C.p y) * (1 - zm C.p y)⁻¹ + C.e)) (zv (C.c * (1 + zm C.p y) * (1 - zm C.p y)⁻¹ * (zm C.p x)⁻¹))))
    have q1 : (1 + zm C.p y) * (1 - zm C.p y)⁻¹ * C.c + C.e = C.c * (1 + zm C.p y) * (1 - zm C.p y)⁻¹ + C.e := by grind
    have q2 : (1 + zm C.p y) * (1 - zm C.p y)⁻¹ * (zm C.p x)⁻¹ * C.c = C.c * (1 + zm C.p y) * (1 - zm C.p y)⁻¹ * (zm C.p x)⁻¹ := by grind
    rw [q1, q2]
theorem psiP_add (P Q : C.Pt) : psiP h5 (P + Q) = psiP h5 P + psiP h5 Q := by
  apply Cv.ext
  have := psi_add (esC h5) (n2 h5) (onP h5 P) (onP h5 Q)
  show psi C.c C.e (eadd (zm C.p C.a) (zm C.p C.d) P.v Q.v) = padd (zm C.p (zv (wA C.c C.e))) (psi C.c C.e P.v) (psi C.c C.e Q.v)
  rw [zm_zv, this, ce_a h5, ce_d h5]
end
/-! ### the ways back -/
def Mon (C : Ev) (u v : Int) : Prop := C.c⁻¹ * (zm C.p v * zm C.p v) = zm C.p u * zm C.p u * zm C.p u + 3 * C.e * C.c⁻¹ * (zm C.p u * zm C.p u) + zm C.p u
noncomputable instance (C : Ev) (u v : Int) : Decidable (Mon C u v) := Classical.propDecidable _
section
variable {C : Ev} [hC : EvP C] (h5 : 5 ≤ C.p)
omit hC in
include h5 in
theorem mon_on {u v : Int} : Mon C u v ↔ OnC (wA C.c C.e) (wB C.c C.e) (some (zm C.p u * C.c + C.e, zm C.p v * C.c)) := by
  have ic := c_inv h5
  have c0 := (esC h5).c0
  unfold Mon
  generalize zm C.p u = x
  generalize zm C.p v = y
  generalize C.c⁻¹ = q at *
  constructor
  · intro h
    refine on_w ?_
    have : C.c * C.c * C.c * (q * (y * y)) = C.c * C.c * C.c * (x * x * x + 3 * C.e * q * (x * x) + x) := by rw [h]
    clear h
    grind
  · intro h
    have h := w_on h
    have : C.c * (C.c * (C.c * (q * (y * y) - (x * x * x + 3 * C.e * q * (x * x) + x)))) = 0 := by grind
    have := z_cancel C.pr c0 (z_cancel C.pr c0 (z_cancel C.pr c0 this))
    grind
include h5 in
theorem mon_code {u v : Int} (hu : Rs C.p u) (hv : Rs C.p v) : (C.small * (v * v) - u * u * u - C.big * (u * u) - u) % (C.p : Int) = 0 ↔ Mon C u v := by
  rw [← zm_zero]
  simp only [zm_sub, zm_mul, zm_zv]
  unfold Mon
  constructor <;> intro h <;> grind
include h5 in
theorem onm_ok {u v : Int} (hu : Rs C.p u) (hv : Rs C.p v) : m_u_on_montgomery C.o (D.tup [D.int u, D.int v]) = .ok (decide (Mon C u v)) := by
  have := hu.bd
  have := hv.bd
  have := (rs_zv (3 * C.e * C.c⁻¹)).bd
  have := (rs_zv C.c⁻¹).bd
  have e2 : D.asT2 (D.tup [D.int u, D.int v]) = .ok (T2.mk (D.int u) (D.int v)) := rfl
  have ai : ∀ i, D.asInt (D.int i) = .ok i := fun _ => rfl
  have px := pair_two (isres_int u C.p) (isres_int v C.p)
  rw [decide_eq_true (show 0 ≤ u ∧ u < C.p from hu), decide_eq_true (show 0 ≤ v ∧ v < C.p from hv)] at px
  have tn2 : (2 : Int).toNat = 2 := rfl
  have tn3 : (3 : Int).toNat = 3 := rfl
  unfold m_u_on_montgomery
  simp (decide := true) only [Res.bind_ok, cond_false, px, Bool.and_true, Bool.not_true, e2, ai, mnum_ok h5, need_bind, need_bd, need_p, need_pw2, need_pw3, tn2, tn3, pow_2, pow_3]
  congr 1
  exact decide_eq_decide.mpr (mon_code h5 hu hv)
theorem onm_no {x : D} (h : m_is_residue_pair x (C.p : Int) = .ok false) : m_u_on_montgomery C.o x = .ok false := by
  unfold m_u_on_montgomery
  simp only [Res.bind_ok, h, Bool.not_false, cond_true]
/-- a point of the short curve, as the Edwards point -/
noncomputable def chiP (P : (wcv h5).Pt) : C.Pt := ⟨chi C.c C.e P.v, by
  have o : OnC (zm C.p (zv (wA C.c C.e))) (zm C.p (zv (wB C.c C.e))) P.v := P.on
  rw [zm_zv, zm_zv] at o
  have := chi_on (esC h5) o
  rw [ce_a h5, ce_d h5] at this
  exact this⟩
theorem chiP_psiP (P : C.Pt) : chiP h5 (psiP h5 P) = P := Ev.ext (chi_psi (esC h5) (onP h5 P))
noncomputable def mkW {u v : Int} (h : Mon C u v) : (wcv h5).Pt := ⟨some (zm C.p u * C.c + C.e, zm C.p v * C.c), by
  show OnC (zm C.p (zv (wA C.c C.e))) (zm C.p (zv (wB C.c C.e))) _
  rw [zm_zv, zm_zv]; exact (mon_on h5).mp h⟩
omit hC in
theorem fr_b {x c w w' : Zp C.p} (i2 : (x * c + c) * w = 1) (i4 : (x + 1) * w' = 1) : (x - 1) * w' = (x * c - c) * w := by
  have t : (x - 1) * w' = (x - 1) * w' * ((x * c + c) * w) := by rw [i2]; clear i2 i4; grind
  have t2 : (x * c - c) * w = (x * c - c) * w * ((x + 1) * w') := by rw [i4]; clear i2 i4 t; grind
  rw [t, t2]; clear t t2 i2 i4; grind
theorem zm_m1 : zm C.p ((C.p : Int) - 1) = -1 := by
  rw [zm_sub, show zm C.p (C.p : Int) = 0 from zm_zero.mpr (Int.emod_self)]
  show (0 : Zp C.p) - 1 = -1
  grind
theorem fromm_ok {u v : Int} (hu : Rs C.p u) (hv : Rs C.p v) (hm : Mon C u v) : m_from_montgomery C.o (D.tup [D.int u, D.int v]) = .ok (ef (chiP h5 (mkW h5 hm))) := by
  have h := hC.pr
  have c0 := (esC h5).c0
  have := hu.bd
  have := hv.bd
  have e0 : (toD (D.tup [D.int u, D.int v])).isNon = false := rfl
  have e2 : D.asT2 (D.tup [D.int u, D.int v]) = .ok (T2.mk (D.int u) (D.int v)) := rfl
  have ai : ∀ i, D.asInt (D.int i) = .ok i := fun _ => rfl
  have okq : (toD (D.int v)).okq = true ∧ (toD (0 : Int)).okq = true := ⟨rfl, rfl⟩
  have pe : pyEq (toD (D.int v)) (toD (0 : Int)) = decide (v = 0) := rfl
  unfold m_from_montgomery
  simp only [Res.bind_ok, e0, cond_false, onm_ok h5 hu hv, decide_eq_true hm, Bool.not_true, e2, ai, Res.need_pos okq, pe]
  by_cases c : v = 0
  · rw [decide_eq_true c, cond_true]
    subst c
    have hv' : (chiP h5 (mkW h5 hm)).v = (0, -1) := by
      show chi C.c C.e (some (zm C.p u * C.c + C.e, zm C.p 0 * C.c)) = _
      rw [show zm C.p 0 * C.c = 0 by show (0 : Zp C.p) * C.c = 0; grind, chi_0]
    unfold ef
    rw [hv', ← zm_m1, zv_of (by omega) (by omega)]
    rfl
  · rw [decide_eq_false c, cond_false]
    have zv0 := mt (z_eq0 hv).mp c
    have hV : zm C.p v * C.c ≠ 0 := z_mul_ne C.pr zv0 c0
    have on := (mon_on h5).mp hm
    have m := w_m (esC h5) (w_on on)
    have hu1 : zm C.p (u + 1) ≠ 0 := by
      intro q
      apply m
      rw [zm_add] at q
      have q : zm C.p u + 1 = 0 := q
      have : zm C.p u * C.c + C.c = C.c * (zm C.p u + 1) := by grind
      rw [this, q]; grind
    obtain ⟨i, ei, ri, zi⟩ := pinv_f h v zv0
    obtain ⟨j, ej, rj, zj⟩ := pinv_f h (u + 1) hu1
    have := ri.bd
    have := rj.bd
    have i1 := z_mul_inv hV
    have i2 := z_mul_inv m
    have i3 := z_mul_inv zv0
    have i4 := z_mul_inv hu1
    have ea : u * i % (C.p : Int) = zv (zm C.p u * C.c * (zm C.p v * C.c)⁻¹) := val_eq (by
      rw [zm_mul, zi]
      have : zm C.p v * C.c * (zm C.p u * (zm C.p v)⁻¹ - zm C.p u * C.c * (zm C.p v * C.c)⁻¹) = 0 := by
        generalize (zm C.p v * C.c)⁻¹ = w at *
        generalize (zm C.p v)⁻¹ = w' at *
        grind
      have := z_cancel C.pr hV this
      grind)
    have eb : (u - 1) * j % (C.p : Int) = zv ((zm C.p u * C.c - C.c) * (zm C.p u * C.c + C.c)⁻¹) := val_eq (by
      rw [zm_mul, zj, zm_sub]
      exact fr_b i2 i4)
    simp (decide := true) only [Res.bind_ok, ei, ej, need_bind, need_bd, need_p, ea, eb]
    have : (chiP h5 (mkW h5 hm)).v = (zm C.p u * C.c * (zm C.p v * C.c)⁻¹, (zm C.p u * C.c - C.c) * (zm C.p u * C.c + C.c)⁻¹) := chi_some hV
    unfold ef
    rw [this]
include h5 in
theorem fromm_no {u v : Int} (hu : Rs C.p u) (hv : Rs C.p v) (hm : ¬ Mon C u v) : m_from_montgomery C.o (D.tup [D.int u, D.int v]) = .exc "NotAPoint" := by
  have e0 : (toD (D.tup [D.int u, D.int v])).isNon = false := rfl
  unfold m_from_montgomery
  simp only [Res.bind_ok, e0, cond_false, onm_ok h5 hu hv, decide_eq_false hm, Bool.not_false, cond_true]
theorem fromm_bad {x : D} (hn : x.isNon = false) (h : m_is_residue_pair x (C.p : Int) = .ok false) : m_from_montgomery C.o x = .exc "NotAPoint" := by
  unfold m_from_montgomery
  simp only [Res.bind_ok, toD_D, hn, cond_false, onm_no h, Bool.not_false, cond_true]
theorem fromm_none : m_from_montgomery C.o D.non = .ok (ef (0 : C.Pt)) := by
  have e0 : (toD D.non).isNon = true := rfl
  rw [ef_zero]
  unfold m_from_montgomery
  simp only [Res.bind_ok, e0, cond_true]
end
section
variable {C : Ev} [hC : EvP C] (h5 : 5 ≤ C.p)
instance : CvP (wcv h5) := ⟨hC.pr⟩
theorem tmv_pt (P : C.Pt) : (tmv P.v = none ∧ P = 0) ∨ ∃ u v : Int, tmv P.v = some (T2.mk u v) ∧ Rs C.p u ∧ Rs C.p v ∧ ∃ hm : Mon C u v, mkW h5 hm = psiP h5 P := by
  have fin : ∀ u v : Int, tmv P.v = some (T2.mk u v) → Rs C.p u → Rs C.p v → psi C.c C.e P.v = some (zm C.p u * C.c + C.e, zm C.p v * C.c) → ∃ u v : Int, tmv P.v = some (T2.mk u v) ∧ Rs C.p u ∧ Rs C.p v ∧ ∃ hm : Mon C u v, mkW h5 hm = psiP h5 P := by
    intro u v e ru rv q
    have on := psi_on (esC h5) (onP h5 P)
    rw [q] at on
    exact ⟨u, v, e, ru, rv, (mon_on h5).mpr on, Cv.ext q.symm⟩
  have o := onP h5 P
  have r0 : Rs C.p 0 := ⟨by decide, by omega⟩
  obtain ⟨x, y, e, X, Y, O, v⟩ := ef_cases P
  rw [v] at o
  by_cases c : x = 0
  · subst c
    rcases psi_0 (esC h5) (y := zm C.p y) o with ⟨y1, q⟩ | ⟨y1, q⟩
    · refine .inl ⟨?_, Ev.ext ?_⟩
      · rw [v, tmv_cases X Y, if_pos rfl, if_pos ((z_eq1 Y).mp y1)]
      · rw [v, y1]; rfl
    · refine .inr (fin 0 0 ?_ r0 r0 ?_)
      · have : ¬ y = 1 := by
          rintro rfl
          have y1 : (1 : Zp C.p) = -1 := y1
          exact (n2 h5) (by grind)
        rw [v, tmv_cases X Y, if_pos rfl, if_neg this]
      · rw [v]
        have q : psi C.c C.e (zm C.p 0, zm C.p y) = some (C.e, 0) := q
        rw [q]
        show some (C.e, (0 : Zp C.p)) = some (0 * C.c + C.e, 0 * C.c)
        congr 2 <;> grind
  · have zx := mt (z_eq0 X).mp c
    refine .inr (fin _ _ (by rw [v, tmv_cases X Y, if_neg c]) (rs_zv _) (rs_zv _) ?_)
    rw [v, psi_eq, if_neg zx, zm_zv, zm_zv]
    congr 2
    · grind
    · grind
theorem fromw_ok (R : (wcv h5).Pt) : m_from_weierstrass C.o (toD (lf R)) = .ok (ef (chiP h5 R)) := by
  have h := hC.pr
  have has : m_Curve_has (wcv h5).o (toD (lf R)) = .ok true := by
    cases e : lf R with
    | none => rw [toD_none2]; unfold m_Curve_has; rfl
    | some q =>
      obtain ⟨x, y⟩ := q
      obtain ⟨X, Y, O, v⟩ := lf_some e
      rw [toD_some2, has_pair (wcv h5).A X Y, decide_eq_true O]
  unfold m_from_weierstrass
  simp only [Res.bind_ok, wof_ok h5, has, Bool.not_true, cond_false]
  cases e : lf R with
  | none =>
    have := lf_none e
    subst this
    have : chiP h5 (0 : (wcv h5).Pt) = 0 := Ev.ext rfl
    rw [this, ef_zero]
    rfl
  | some q =>
    obtain ⟨x, y⟩ := q
    obtain ⟨X, Y, O, v⟩ := lf_some e
    have X : Rs C.p x := X
    have Y : Rs C.p y := Y
    have v : R.v = some (zm C.p x, zm C.p y) := v
    have := X.bd
    have := Y.bd
    have := (rs_zv (3 * C.e * C.c⁻¹)).bd
    have := (rs_zv C.c⁻¹).bd
    obtain ⟨t, et, rt, zt⟩ := pinv_f h 3 (show zm C.p 3 ≠ 0 from n3 h5)
    have := rt.bd
    have e0 : (toD (toD (some (T2.mk x y)))).isNon = false := rfl
    have e4 : D.asTu (toD (some (T2.mk x y))) = .ok ⟨[D.int x, D.int y]⟩ := rfl
    have i0 : idx [D.int x, D.int y] (0 : Int) = .ok (D.int x) := rfl
    have i1 : idx [D.int x, D.int y] (1 : Int) = .ok (D.int y) := rfl
    have ai : ∀ i, D.asInt (D.int i) = .ok i := fun _ => rfl
    have ic := c_inv h5
    have i3 := z_mul_inv (n3 h5)
    have zu : zm C.p ((C.small * x - C.big * t) % C.p) * C.c + C.e = zm C.p x := by
      rw [zm_mod, zm_sub, zm_mul, zm_mul, zm_zv, zm_zv, zt, show zm C.p 3 = 3 from rfl]
      generalize (3 : Zp C.p)⁻¹ = w at *
      generalize C.c⁻¹ = q at *
      grind
    have zv' : zm C.p (C.small * y % C.p) * C.c = zm C.p y := by
      rw [zm_mod, zm_mul, zm_zv]
      generalize C.c⁻¹ = q at *
      grind
    have on : OnC (wA C.c C.e) (wB C.c C.e) (some (zm C.p x, zm C.p y)) := by
      have o : OnC (zm C.p (zv (wA C.c C.e))) (zm C.p (zv (wB C.c C.e))) R.v := R.on
      rw [zm_zv, zm_zv, v] at o
      exact o
    have hm : Mon C ((C.small * x - C.big * t) % C.p) (C.small * y % C.p) := (mon_on h5).mpr (by rw [zu, zv']; exact on)
    have same : mkW h5 hm = R := Cv.ext (by
      show some (zm C.p ((C.small * x - C.big * t) % C.p) * C.c + C.e, zm C.p (C.small * y % C.p) * C.c) = R.v
      rw [zu, zv', v])
    have fm := fromm_ok h5 (rs_mod _) (rs_mod _) hm
    rw [same] at fm
    simp (decide := true) only [Res.bind_ok, e0, cond_false, mnum_ok h5, e4, i0, i1, ai, et, need_bind, need_bd, need_p]
    exact fm
include h5 in
theorem fromw_no {x y : Int} (hx : Rs C.p x) (hy : Rs C.p y) (ho : ¬ On C.p (wcv h5).a (wcv h5).b x y) : m_from_weierstrass C.o (D.tup [D.int x, D.int y]) = .exc "NotAPoint" := by
  have has : m_Curve_has (wcv h5).o (D.tup [D.int x, D.int y]) = .ok false := by
    have := has_pair (p := (wcv h5).p) (wcv h5).A hx hy (b := (wcv h5).b)
    rw [this]; exact congrArg Res.ok (decide_eq_false ho)
  unfold m_from_weierstrass
  simp only [Res.bind_ok, wof_ok h5, has, Bool.not_false, cond_true]
include h5 in
theorem fromw_bad {x : D} (hn : x.isNon = false) (h : m_is_residue_pair x (C.p : Int) = .ok false) : m_from_weierstrass C.o x = .exc "NotAPoint" := by
  have has : m_Curve_has (wcv h5).o x = .ok false := has_no h hn
  unfold m_from_weierstrass
  simp only [Res.bind_ok, wof_ok h5, has, Bool.not_false, cond_true]
/-! ### what is told -/
def refD : D := toD (T2.mk ("refused" : Str) ("point" : Str))
theorem told0_ok {x : D} {q : T2 Int Int} (h : m_from_montgomery C.o x = .ok q) : m_u_law_told 0 C.o x = .ok (toD q) := by
  unfold m_u_law_told
  simp only [Res.bind_ok, h, decide_true, cond_true]
  rfl
theorem told1_ok {x : D} {q : T2 Int Int} (h : m_from_weierstrass C.o x = .ok q) : m_u_law_told 1 C.o x = .ok (toD q) := by
  unfold m_u_law_told
  simp (decide := true) only [Res.bind_ok, h, cond_false]
  rfl
theorem told0_no {x : D} (h : m_from_montgomery C.o x = .exc "NotAPoint") : m_u_law_told 0 C.o x = .ok refD := by
  unfold m_u_law_told
  simp only [Res.bind_ok, h, decide_true, cond_true]
  rfl
theorem told1_no {x : D} (h : m_from_weierstrass C.o x = .exc "NotAPoint") : m_u_law_told 1 C.o x = .ok refD := by
  unfold m_u_law_told
  simp (decide := true) only [Res.bind_ok, h, cond_false]
  rfl
end
section
variable {C : Ev} [hC : EvP C] (h5 : 5 ≤ C.p)
theorem has_lfW (R : (wcv h5).Pt) : m_Curve_has (wcv h5).o (toD (lf R)) = .ok true := by
  cases e : lf R with
  | none => rw [toD_none2]; unfold m_Curve_has; rfl
  | some q =>
    obtain ⟨x, y⟩ := q
    obtain ⟨X, Y, O, v⟩ := lf_some e
    rw [toD_some2, has_pair (wcv h5).A X Y, decide_eq_true O]
include h5 in
theorem ltow_pair {u v : Int} : ∃ s t : Int, m_u_law_inverse C.small (C.p : Int) = .ok s ∧ m_u_law_inverse 3 (C.p : Int) = .ok t ∧ Rs C.p s ∧ Rs C.p t ∧ (u + C.big * t) * s % (C.p : Int) = zv (zm C.p u * C.c + C.e) ∧ v * s % (C.p : Int) = zv (zm C.p v * C.c) := by
  have h := hC.pr
  obtain ⟨s, es, rs, zs⟩ := linve_f h C.small (by rw [zm_zv]; exact ci_ne h5)
  obtain ⟨t, et, rt, zt⟩ := linve_f h 3 (show zm C.p 3 ≠ 0 from n3 h5)
  have ic := c_inv h5
  have i3 := z_mul_inv (n3 h5)
  have zs : zm C.p s = C.c := by
    rw [zs, zm_zv]
    have := z_mul_inv (ci_ne h5)
    grind
  refine ⟨s, t, es, et, rs, rt, val_eq ?_, val_eq ?_⟩
  · rw [zm_mul, zm_add, zm_mul, zm_zv, zs, zt, show zm C.p 3 = 3 from rfl]
    generalize (3 : Zp C.p)⁻¹ = w at *
    generalize C.c⁻¹ = q at *
    grind
  · rw [zm_mul, zs]
include h5 in
theorem mon_law {u v : Int} (hu : Rs C.p u) (hv : Rs C.p v) : (C.small * v * v - u * u * u - C.big * u * u - u) % (C.p : Int) = 0 ↔ Mon C u v := by
  rw [← mon_code h5 hu hv, show C.small * v * v - u * u * u - C.big * u * u - u = C.small * (v * v) - u * u * u - C.big * (u * u) - u by grind]
include h5 in
theorem rp_ok (P : C.Pt) : m_u_law_right_point C.o (C.p : Int) C.a C.d (ef P) = .ok true := by
  have okP : ∀ X Y : P2, (toD X).okq = true ∧ (toD Y).okq = true := fun X Y => ⟨okq_p2 X, okq_p2 Y⟩
  have okQ : ∀ X Y : Q2, (toD (toD X)).okq = true ∧ (toD Y).okq = true := fun X Y => ⟨okq_q2 X, okq_q2 Y⟩
  have peP : ∀ X : P2, pyEq (toD X) (toD X) = true := fun X => (pyEq_p2 X X).mpr rfl
  have peQ : ∀ X : Q2, pyEq (toD (toD X)) (toD X) = true := pyEq_q2r
  have tdd : ∀ X : D, toD X = X := fun _ => rfl
  unfold m_u_law_right_point
  rcases tmv_pt h5 P with ⟨e, hP⟩ | ⟨u, v, e, ru, rv, hm, same⟩
  · subst hP
    have t0 : m_u_law_told 0 C.o (toD (none : P2)) = .ok (toD (ef (0 : C.Pt))) := told0_ok fromm_none
    have t1 : m_u_law_told 1 C.o (toD ()) = .ok (toD (ef (0 : C.Pt))) := by
      have := fromw_ok h5 (0 : (wcv h5).Pt)
      have z : chiP h5 (0 : (wcv h5).Pt) = 0 := Ev.ext rfl
      rw [z] at this
      exact told1_ok this
    have ps : psiP h5 (0 : C.Pt) = 0 := by
      apply Cv.ext
      show psi C.c C.e (0, 1) = none
      rw [psi_eq, if_pos rfl, if_pos rfl]
    have n0 : (toD (none : P2)).isNon = true := rfl
    simp only [Res.bind_ok, ldue_ok h5, tom_ok h5, ltom_ok h5, e, Res.need_pos (okP _ _), peP, Bool.not_true, cond_false, t0, Res.need_pos (okQ _ _), peQ, tow_ok h5, ps, lf_zero, n0, cond_true, t1]
  · have fm := fromm_ok h5 ru rv hm
    rw [same, chiP_psiP] at fm
    have t0 : m_u_law_told 0 C.o (toD (some (T2.mk u v))) = .ok (toD (ef P)) := told0_ok fm
    have fw := fromw_ok h5 (psiP h5 P)
    rw [chiP_psiP] at fw
    have t1 : m_u_law_told 1 C.o (toD (lf (psiP h5 P))) = .ok (toD (ef P)) := told1_ok fw
    have n1 : (toD (some (T2.mk u v))).isNon = false := rfl
    have og : optGet (some (T2.mk u v)) = .ok (T2.mk u v) := rfl
    obtain ⟨s, t, es, et, rs, rt, e1, e2⟩ := ltow_pair (C := C) h5 (u := u) (v := v)
    have := rs.bd
    have := rt.bd
    have := ru.bd
    have := rv.bd
    have := (rs_zv (3 * C.e * C.c⁻¹)).bd
    have := (rs_zv C.c⁻¹).bd
    have ml := (mon_law h5 ru rv).mpr hm
    have L : some (T2.mk (zv (zm C.p u * C.c + C.e)) (zv (zm C.p v * C.c))) = lf (psiP h5 P) := by rw [← same]; rfl
    have L' : toD (T2.mk (zv (zm C.p u * C.c + C.e)) (zv (zm C.p v * C.c))) = toD (lf (psiP h5 P)) := by rw [← L]; rfl
    have pL : pyEq (toD (lf (psiP h5 P))) (toD (T2.mk (zv (zm C.p u * C.c + C.e)) (zv (zm C.p v * C.c)))) = true := by rw [L']; exact peP _
    have okL : (toD (lf (psiP h5 P))).okq = true ∧ (toD (T2.mk (zv (zm C.p u * C.c + C.e)) (zv (zm C.p v * C.c)))).okq = true := ⟨okq_p2 _, okq_t2 _⟩
    simp (decide := true) only [Res.bind_ok, ldue_ok h5, tom_ok h5, ltom_ok h5, e, Res.need_pos (okP _ _), peP, Bool.not_true, cond_false, t0, Res.need_pos (okQ _ _), peQ, tow_ok h5, n1, og, need_bind, need_bd, need_p, ml, es, et, e1, e2, Res.need_pos okL, pL, wof_ok h5, has_lfW h5, t1, decide_true]
include h5 in
theorem l5_ok (k : Unit → Res Bool) : ∀ ks : List C.Pt, m_law_l5 (C.p : Int) C.a C.d C.o k (ks.map ef) () = k () := by
  intro ks
  induction ks with
  | nil => rw [List.map_nil, m_law_l5]
  | cons P r ih =>
    rw [List.map_cons, m_law_l5]
    simp only [Res.bind_ok, rp_ok h5, Bool.not_true, cond_false, ih]
abbrev rfd : T2 Str Str := T2.mk ("refused" : Str) ("point" : Str)
theorem pq_ref (q : Q2) : pyEq (toD (toD q)) (toD rfd) = false := by obtain ⟨x, y⟩ := q; rfl
theorem pq_rr : pyEq (toD refD) (toD rfd) = true := by decide
theorem okrfd : (toD rfd).okq = true := by decide +kernel
theorem okrr : (toD refD).okq = true ∧ (toD rfd).okq = true := ⟨by decide +kernel, okrfd⟩
include h5 in
theorem told0_pair {u v : Int} (hu : Rs C.p u) (hv : Rs C.p v) : ∃ r, m_u_law_told 0 C.o (toD (T2.mk u v)) = .ok r ∧ ((toD r).okq = true ∧ (toD rfd).okq = true) ∧ pyEq (toD r) (toD rfd) = !decide (Mon C u v) := by
  by_cases hm : Mon C u v
  · refine ⟨_, told0_ok (fromm_ok h5 hu hv hm), ⟨okq_q2 _, okrfd⟩, ?_⟩
    rw [pq_ref, decide_eq_true hm]; rfl
  · refine ⟨_, told0_no (fromm_no h5 hu hv hm), okrr, ?_⟩
    rw [pq_rr, decide_eq_false hm]; rfl
include h5 in
theorem told1_pair {u v : Int} (hu : Rs C.p u) (hv : Rs C.p v) : ∃ r, m_u_law_told 1 C.o (toD (T2.mk u v)) = .ok r ∧ ((toD r).okq = true ∧ (toD rfd).okq = true) ∧ pyEq (toD r) (toD rfd) = !decide (On C.p (wcv h5).a (wcv h5).b u v) := by
  by_cases hm : On C.p (wcv h5).a (wcv h5).b u v
  · obtain ⟨R, hR, _⟩ := lf_ex (C := wcv h5) hu hv hm
    have := fromw_ok h5 R
    rw [hR] at this
    refine ⟨_, told1_ok this, ⟨okq_q2 _, okrfd⟩, ?_⟩
    rw [pq_ref, decide_eq_true hm]; rfl
  · refine ⟨_, told1_no (fromw_no h5 hu hv hm), okrr, ?_⟩
    rw [pq_rr, decide_eq_false hm]; rfl
theorem bne_not (b : Bool) : ((!b) == b) = false := by cases b <;> rfl
include h5 in
theorem k8_ok (ns : Ro Int) (A B : C.Pt) : m_law_k8 ns (C.p : Int) C.a C.d C.o C.big C.small (wcv h5).o (ef A) (ef B) () = .ok true := by
  have hp := hC.pr.pos
  obtain ⟨c6, d6⟩ := cell_ex ns (show 0 ≤ (6 : Int) by decide)
  obtain ⟨c7, d7⟩ := cell_ex ns (show 0 ≤ (7 : Int) by decide)
  obtain ⟨u, eu, ru⟩ := residue_ok (m := (C.p : Int)) hp c6
  obtain ⟨v, ev, rv⟩ := residue_ok (m := (C.p : Int)) hp c7
  have ru : Rs C.p u := ru
  have rv : Rs C.p v := rv
  have := ru.bd
  have := rv.bd
  have := (rs_zv (3 * C.e * C.c⁻¹)).bd
  have := (rs_zv C.c⁻¹).bd
  have okP : ∀ X Y : P2, (toD X).okq = true ∧ (toD Y).okq = true := fun X Y => ⟨okq_p2 X, okq_p2 Y⟩
  have peP : ∀ X : P2, pyEq (toD X) (toD X) = true := fun X => (pyEq_p2 X X).mpr rfl
  obtain ⟨r0, t0, k0, p0⟩ := told0_pair h5 ru rv
  obtain ⟨r1, t1, k1, p1⟩ := told1_pair h5 ru rv
  have hasW : m_Curve_has (wcv h5).o (toD (T2.mk u v)) = .ok (decide (On C.p (wcv h5).a (wcv h5).b u v)) := has_pair (p := (wcv h5).p) (wcv h5).A ru rv
  have dm : decide ((C.small * v * v - u * u * u - C.big * u * u - u) % (C.p : Int) = 0) = decide (Mon C u v) := decide_eq_decide.mpr (mon_law h5 ru rv)
  have b1 : m_u_law_told 0 C.o (toD (T2.mk u (v + C.p))) = .ok refD := by
    refine told0_no (fromm_bad rfl ?_)
    have px := pair_two (isres_int u C.p) (isres_int (v + C.p) C.p)
    rw [decide_eq_false (show ¬ (0 ≤ v + (C.p : Int) ∧ v + (C.p : Int) < C.p) by have := rv.1; omega), Bool.and_false] at px
    exact px
  have b2 : m_u_law_told 1 C.o (toD (T2.mk (u - C.p) v)) = .ok refD := by
    refine told1_no (fromw_bad h5 rfl ?_)
    have px := pair_two (isres_int (u - C.p) C.p) (isres_int v C.p)
    rw [decide_eq_false (show ¬ (0 ≤ u - (C.p : Int) ∧ u - (C.p : Int) < C.p) by have := ru.2; omega), Bool.false_and] at px
    exact px
  have b3 : m_u_law_told 0 C.o (toD [u]) = .ok refD := told0_no (fromm_bad rfl (pair_no rfl rfl))
  unfold m_law_k8
  simp (decide := true) only [Res.bind_ok, leadd_ok, tow_ok h5, add_ok, psiP_add, Res.need_pos (okP _ _), peP, Bool.not_true, cond_false, d6, d7, eu, ev, need_bind, need_bd, need_p, dm, t0, Res.need_pos k0, p0, bne_not, t1, Res.need_pos k1, p1, hasW, b1, b2, b3, Res.need_pos okrr, pq_rr, cond_true]
include h5 in
theorem k4_ok (ns : Ro Int) (A B : C.Pt) : m_law_k4 ns (C.p : Int) C.a C.d C.o C.big C.small (wcv h5).o (ef B) (ef A) = .ok true := by
  obtain ⟨S, hS⟩ := ef_two (C := C)
  unfold m_law_k4
  simp only [Res.bind_ok, ← hS, ← ef_zero (C := C)]
  rw [show [ef A, ef B, ef 0, ef S] = [A, B, 0, S].map ef from rfl, l5_ok h5]
  exact k8_ok h5 ns A B
include h5 in
theorem k3_ok (ns : Ro Int) (A B : C.Pt) (kind : Int) : m_law_k3 ns (C.p : Int) C.a C.d C.o C.big C.small (wcv h5).o (ef A) kind (ef B) = .ok true := by
  obtain ⟨s, hs, q⟩ := elift_ok (C := C) (y := 0) ⟨by decide, by omega⟩ true
  unfold m_law_k3
  by_cases c : kind = 2
  · rcases q with ⟨q, _⟩ | ⟨x, T, q, hT, _⟩
    · have n0 : (toD (none : Option Q2)).isNon = true := rfl
      simp only [Res.bind_ok, decide_eq_true c, cond_true, q, n0, Bool.not_true, cond_false]
      exact k4_ok h5 ns A B
    · have n1 : (toD (some (T2.mk x (0 : Int)))).isNon = false := rfl
      have og : optGet (some (T2.mk x (0 : Int))) = .ok (T2.mk x 0) := rfl
      simp only [Res.bind_ok, decide_eq_true c, cond_true, q, n1, Bool.not_false, og]
      rw [← hT]
      exact k4_ok h5 ns T B
  · simp only [Res.bind_ok, decide_eq_false c, cond_false]
    exact k4_ok h5 ns A B
end
theorem law_true (ns : Ro Int) (hl : ns.xs.length ≤ 63) (hb : ∀ i ∈ ns.xs, Builtin.Int.intBits i ≤ 1048576) : m_law ns = .ok true := by
  clear hb
  obtain ⟨c0, d0⟩ := cell_ex ns (show 0 ≤ (0 : Int) by decide)
  obtain ⟨c3, d3⟩ := cell_ex ns (show 0 ≤ (3 : Int) by decide)
  obtain ⟨c4, d4⟩ := cell_ex ns (show 0 ≤ (4 : Int) by decide)
  obtain ⟨c5, d5⟩ := cell_ex ns (show 0 ≤ (5 : Int) by decide)
  obtain ⟨p, p1, h, h5, hn⟩ := edwards_prime_ok c0
  obtain ⟨C, hC, e1, num, ha, hd⟩ := numbers_ok h hn ns (at_ := 1) (by decide)
  subst e1
  obtain ⟨A, hA⟩ := elifted_ok (C := C) c3
  obtain ⟨B, hB⟩ := elifted_ok (C := C) c4
  obtain ⟨S, hS⟩ := ef_two (C := C)
  have okQ : ∀ X Y : Q2, (toD X).okq = true ∧ (toD Y).okq = true := fun X Y => ⟨okq_q2 X, okq_q2 Y⟩
  have pe3 : ∀ x y z : Int, pyEq (toD (T3.mk x y z)) (toD (T3.mk x y z)) = true := by
    intro x y z
    exact (pyEq_dec (x := toD (T3.mk x y z)) (y := toD (T3.mk x y z)) rfl rfl).mpr rfl
  have ok3 : ∀ x y z x' y' z' : Int, (toD (T3.mk x y z)).okq = true ∧ (toD (T3.mk x' y' z')).okq = true := fun _ _ _ _ _ _ => ⟨rfl, rfl⟩
  unfold m_law
  simp (decide := true) only [Res.bind_ok, d0, p1, num, einit_C ha hd, mnum_ok h5, ldue_ok h5, Res.need_pos (okQ _ _), pyEq_q2r, Bool.not_true, cond_false, wof_ok h5, shape_ok h5, Res.need_pos (ok3 _ _ _ _ _ _), pe3, hA, hB, d3, d4, d5]
  have nA := ef_neg A
  have wp : (((wcv h5).p : Nat) : Int) = (C.p : Int) := rfl
  have k3 := k3_ok h5 ns
  rw [wp, pe3, Bool.not_true, cond_false]
  by_cases c : (c5.natAbs : Int) % 6 = 1
  · simp only [decide_eq_true c, cond_true]
    simp only [need_bind, need_p, Res.bind_ok, ← nA, ← hS, ← ef_zero (C := C)]
    have z0 := Int.emod_nonneg ((c5.natAbs : Int) / 6) (show (4 : Int) ≠ 0 by decide)
    have z1 := Int.emod_lt_of_pos ((c5.natAbs : Int) / 6) (show (0 : Int) < 4 by decide)
    generalize (c5.natAbs : Int) / 6 % 4 = z at *
    have i0 : ∀ a b c d : Q2, idx [a, b, c, d] (0 : Int) = .ok a := fun _ _ _ _ => rfl
    have i1 : ∀ a b c d : Q2, idx [a, b, c, d] (1 : Int) = .ok b := fun _ _ _ _ => rfl
    have i2 : ∀ a b c d : Q2, idx [a, b, c, d] (2 : Int) = .ok c := fun _ _ _ _ => rfl
    have i3 : ∀ a b c d : Q2, idx [a, b, c, d] (3 : Int) = .ok d := fun _ _ _ _ => rfl
    rcases (by omega : z = 0 ∨ z = 1 ∨ z = 2 ∨ z = 3) with rfl | rfl | rfl | rfl
    · rw [i0, Res.bind_ok]; exact k3 A 0 _
    · rw [i1, Res.bind_ok]; exact k3 A S _
    · rw [i2, Res.bind_ok]; exact k3 A A _
    · rw [i3, Res.bind_ok]; exact k3 A (-A) _
  · simp only [decide_eq_false c, cond_false]
    exact k3_ok h5 ns A B _
end Mi
open PySem PySem.W PySem.Calls PyProof.Rows
theorem PySem.Challenge.cw_curveseal_k21_shapes_of_a_curve_holds : PySem.Challenge.rw_curveseal_k21_shapes_of_a_curve.Holds := by
  w_on; o_law
  refine HandSHeadRun.head_any (r := OpenLaw.row PySem.Challenge.rw_curveseal_k21_shapes_of_a_curve) (q := view (OpenLaw.row PySem.Challenge.rw_curveseal_k21_shapes_of_a_curve).prog [54]) (H := Mi.hk) (ob := Mi.ob) (M := 20000) (loose := (["is_whole", "is_residue", "is_residue_pair", "bezout", "inverse", "power", "square_class", "split_twos", "square_root", "_root_of_square", "_non_square", "root_with_parity", "montgomery_numbers", "to_montgomery", "from_montgomery", "_on_montgomery", "weierstrass_of", "_check_prime", "to_weierstrass", "from_weierstrass", "_law_cell", "_law_is_integer", "_law_is_prime", "_law_prime", "_law_power"] : List Str) ++ (["_law_inverse", "_law_residue", "_law_class", "_law_edwards_prime", "_law_numbers", "_law_on", "_law_lifted", "_law_add", "_law_montgomery", "_law_told", "_law_numbers_due", "_law_shape", "_law_right_point", "_wall", "CurveError", "OutOfRange", "Malformed", "NotAPoint", "NoInverse", "Refused", "Curve", "EdwardsCurve"] : List Str)) (d := HandSHeadRun.topDef (OpenLaw.row PySem.Challenge.rw_curveseal_k21_shapes_of_a_curve).prog 54) (kwd := []) Mi.ob_eq
    (by kernel_rfl) (fun s => by kernel_rfl) Mi.run_ (by kernel_rfl) (by kernel_rfl) (by kernel_rfl) (by rfl) (by first | assumption | decide +kernel) (by decide +kernel) ⟨rfl, rfl, rfl, rfl, rfl, by decide +kernel⟩ ?hw ?hc
  case hw => w_witness2
  case hc =>
    refine Mi.walk_end (l := PySem.Challenge.rw_curveseal_k21_shapes_of_a_curve) (n := 63) (k := 9) (x := "script") (m := Mi.m_law) rfl (by decide) (by kernel_rfl) ⟨rfl, by decide, by decide⟩ ?F (fun ns h1 h2 => Mi.law_true ⟨ns⟩ h1 h2)
    intro w mg fa h Y G hmg0
    obtain ⟨K, KX, c⟩ := Y
    have hmg : mg ("law" : PySem.Str) = some (.ref fa) := by
      have e : (HandSHeadRun.topDef (OpenLaw.row PySem.Challenge.rw_curveseal_k21_shapes_of_a_curve).prog 54).name = ("law" : PySem.Str) := by kernel_rfl
      rw [← e]
      exact hmg0
    have T := Mi.facts_of KX G c
    have ea := hmg.symm.trans T.g_law
    cases ea
    obtain ⟨fd, FL⟩ := T.d_law
    have b := L2.FunD.bindsA (ps := ["script"]) FL fun _ _ _ _ _ _ us hl => match us, hl with | [_], _ => rfl
    exact ⟨K, fd, KX, fun s u => b s [u] rfl, fun base _ _ => Mi.ok_law T FL⟩
