import PyProof.Rows.All
import Wide.All
import OpenK.AllK
import Wide.FinOn
import HandS.Base
import HandS.Call
import HandS.List
import HandS.Comp
import HandS.Ends
import HandS.Exc
import HandS.ExcOwn
import HandS.TryOnly
import HandS.ExcIs
import HandS.IsInst
import HandS.FStr
import HandS.RaiseMore
import HandS.Words
import HandS.WordsList
import HandS.WordsExc
import HandS.WideBits
import HandS.Iter
import HandS.Text
import HandS.Evl
import HandS.Head0
import HandS.Head1
import HandS.Head2
import HandS.HeadEnd
import HandS.HeadHook1
import HandS.HeadHook2
import HandS.HeadHook4
import HandS.EndBits
import HandS.Style
import PySem.Challenge.RW_curveseal_k75_whole_curves_and_their_twi
set_option Elab.async false
set_option linter.all false
set_option maxRecDepth 100000
set_option autoImplicit false
set_option maxHeartbeats 4000000
set_option maxHeartbeats 1000000
namespace Mi
open PySem PySem.Spec L2
open Evl (Ex)

/-! ### data -/
inductive D where
  | non | bl (b : Bool) | int (i : Int) | str (s : Str) | ty (n : String)
  | tup (xs : List D) | lst (xs : List D) | obj (c : Str) (ks : List Str) (ds : List D) | ro (xs : List D)

class ToD (α : Type) where
  d : α → D
abbrev toD {α : Type} [ToD α] (x : α) : D := ToD.d x
instance : ToD D := ⟨fun x => x⟩
instance : ToD Int := ⟨D.int⟩
instance : ToD Bool := ⟨D.bl⟩
instance : ToD Unit := ⟨fun _ => .non⟩
instance : ToD Str := ⟨D.str⟩
instance {α : Type} [ToD α] : ToD (List α) := ⟨fun xs => .lst (xs.map ToD.d)⟩
instance {α : Type} [ToD α] : ToD (Option α) := ⟨fun o => match o with | none => .non | some x => ToD.d x⟩
structure T1 (α : Type) where
  a : α
structure T2 (α β : Type) where
  a : α
  b : β
structure T3 (α β γ : Type) where
  a : α
  b : β
  c : γ
structure T4 (α β γ δ : Type) where
  a : α
  b : β
  c : γ
  e : δ
structure Ro (α : Type) where
  xs : List α
structure Tu (α : Type) where
  xs : List α
instance {α : Type} [ToD α] : ToD (T1 α) := ⟨fun x => .tup [ToD.d x.a]⟩
instance {α β : Type} [ToD α] [ToD β] : ToD (T2 α β) := ⟨fun x => .tup [ToD.d x.a, ToD.d x.b]⟩
instance {α β γ : Type} [ToD α] [ToD β] [ToD γ] : ToD (T3 α β γ) := ⟨fun x => .tup [ToD.d x.a, ToD.d x.b, ToD.d x.c]⟩
instance {α β γ δ : Type} [ToD α] [ToD β] [ToD γ] [ToD δ] : ToD (T4 α β γ δ) := ⟨fun x => .tup [ToD.d x.a, ToD.d x.b, ToD.d x.c, ToD.d x.e]⟩
instance {α : Type} [ToD α] : ToD (Ro α) := ⟨fun x => .ro (x.xs.map ToD.d)⟩
instance {α : Type} [ToD α] : ToD (Tu α) := ⟨fun x => .tup (x.xs.map ToD.d)⟩

mutual
def Rep (K : PySem.W.Frag) (F : Hp) : D → V → Prop
  | .non, v => v = .non
  | .bl b, v => v = .bl b
  | .int i, v => v = .int i
  | .str s, v => v = .str s
  | .ty n, v => v = .ty n
  | .tup ds, v => ∃ a vs, v = .ref a ∧ SqT K F a vs ∧ Reps K F ds vs
  | .lst ds, v => ∃ a vs, v = .ref a ∧ F a = some (.lst vs) ∧ Reps K F ds vs
  | .obj c ks ds, v => ∃ a dx vs, v = .ref a ∧ F a = some (.ins (He.ga K c) dx (ks.zip vs)) ∧ ks.length = vs.length ∧ Reps K F ds vs
  | .ro ds, v => ∃ a vs, v = .ref a ∧ SqL K F a vs ∧ Reps K F ds vs
def Reps (K : PySem.W.Frag) (F : Hp) : List D → List V → Prop
  | [], vs => vs = []
  | d :: ds, vs => ∃ v r, vs = v :: r ∧ Rep K F d v ∧ Reps K F ds r
end

theorem sq_ex {K : PySem.W.Frag} {F H : Hp} {a : Addr} {xs : List V} (e : Ex F H) (h : F a = some (.lst xs)) : SqL K H a xs := Or.inl (Or.inl (e _ _ h))
mutual
theorem Rep.mono {K : PySem.W.Frag} {F F' : Hp} (e : Ex F F') : ∀ (d : D) (v : V), Rep K F d v → Rep K F' d v
  | .non, v, h => h
  | .bl b, v, h => h
  | .int i, v, h => h
  | .str s, v, h => h
  | .ty n, v, h => h
  | .tup ds, v, h => by
    obtain ⟨a, vs, h1, h2, h3⟩ := h
    exact ⟨a, vs, h1, Evl.ex_t e h2, Reps.mono e ds vs h3⟩
  | .lst ds, v, h => by
    obtain ⟨a, vs, h1, h2, h3⟩ := h
    exact ⟨a, vs, h1, e _ _ h2, Reps.mono e ds vs h3⟩
  | .obj c ks ds, v, h => by
    obtain ⟨a, dx, vs, h1, h2, h3, h4⟩ := h
    exact ⟨a, dx, vs, h1, e _ _ h2, h3, Reps.mono e ds vs h4⟩
  | .ro ds, v, h => by
    obtain ⟨a, vs, h1, h2, h3⟩ := h
    exact ⟨a, vs, h1, Evl.ex_l e h2, Reps.mono e ds vs h3⟩
theorem Reps.mono {K : PySem.W.Frag} {F F' : Hp} (e : Ex F F') : ∀ (ds : List D) (vs : List V), Reps K F ds vs → Reps K F' ds vs
  | [], vs, h => h
  | d :: ds, vs, h => by
    obtain ⟨v, r, h1, h2, h3⟩ := h
    exact ⟨v, r, h1, Rep.mono e d v h2, Reps.mono e ds r h3⟩
end
section
variable {K : PySem.W.Frag} {F F' H H' H1 : Hp}
theorem Reps.length : ∀ {ds : List D} {vs : List V}, Reps K F ds vs → ds.length = vs.length
  | [], vs, h => by rw [show vs = [] from h]; rfl
  | d :: ds, vs, h => by
    obtain ⟨v, r, rfl, _, h3⟩ := h
    simp [Reps.length h3]
theorem Reps.get : ∀ {ds : List D} {vs : List V} {i : Nat} {e : D}, Reps K F ds vs → ds[i]? = some e → ∃ v, vs[i]? = some v ∧ Rep K F e v
  | [], vs, i, e, h, q => by simp at q
  | d :: ds, vs, 0, e, h, q => by
    obtain ⟨v, r, rfl, h2, h3⟩ := h
    simp at q; subst q
    exact ⟨v, rfl, h2⟩
  | d :: ds, vs, i + 1, e, h, q => by
    obtain ⟨v, r, rfl, h2, h3⟩ := h
    simp at q
    obtain ⟨w, a, b⟩ := Reps.get h3 q
    exact ⟨w, by simpa using a, b⟩
theorem Reps.append : ∀ {ds es : List D} {vs ws : List V}, Reps K F ds vs → Reps K F es ws → Reps K F (ds ++ es) (vs ++ ws)
  | [], es, vs, ws, h, q => by rw [show vs = [] from h]; exact q
  | d :: ds, es, vs, ws, h, q => by
    obtain ⟨v, r, rfl, h2, h3⟩ := h
    exact ⟨v, r ++ ws, rfl, h2, Reps.append h3 q⟩
theorem Reps.one {e : D} {v : V} (h : Rep K F e v) : Reps K F [e] [v] := ⟨v, [], rfl, h, rfl⟩
theorem Reps.set : ∀ {ds : List D} {vs : List V} (i : Nat) {e : D} {v : V}, Reps K F ds vs → Rep K F e v → Reps K F (ds.set i e) (vs.set i v)
  | [], vs, i, e, v, h, q => by rw [show vs = [] from h]; exact rfl
  | d :: ds, vs, 0, e, v, h, q => by
    obtain ⟨w, r, rfl, h2, h3⟩ := h
    exact ⟨v, r, rfl, q, h3⟩
  | d :: ds, vs, i + 1, e, v, h, q => by
    obtain ⟨w, r, rfl, h2, h3⟩ := h
    exact ⟨w, r.set i v, rfl, h2, Reps.set i h3 q⟩
theorem Reps.drop : ∀ {ds : List D} {vs : List V} (i : Nat), Reps K F ds vs → Reps K F (ds.drop i) (vs.drop i)
  | [], vs, i, h => by rw [show vs = [] from h]; simp [Reps]
  | d :: ds, vs, 0, h => h
  | d :: ds, vs, i + 1, h => by
    obtain ⟨w, r, rfl, h2, h3⟩ := h
    exact Reps.drop i h3
theorem Reps.take : ∀ {ds : List D} {vs : List V} (i : Nat), Reps K F ds vs → Reps K F (ds.take i) (vs.take i)
  | [], vs, i, h => by rw [show vs = [] from h]; simp [Reps]
  | d :: ds, vs, 0, h => by simp [Reps]
  | d :: ds, vs, i + 1, h => by
    obtain ⟨w, r, rfl, h2, h3⟩ := h
    exact ⟨w, r.take i, rfl, h2, Reps.take i h3⟩
theorem Reps.dropLast {ds : List D} {vs : List V} (h : Reps K F ds vs) : Reps K F ds.dropLast vs.dropLast := by
  rw [List.dropLast_eq_take, List.dropLast_eq_take, h.length]
  exact Reps.take _ h
theorem Reps.reverse : ∀ {ds : List D} {vs : List V}, Reps K F ds vs → Reps K F ds.reverse vs.reverse
  | [], vs, h => by rw [show vs = [] from h]; simp [Reps]
  | d :: ds, vs, h => by
    obtain ⟨w, r, rfl, h2, h3⟩ := h
    rw [List.reverse_cons, List.reverse_cons]
    exact Reps.append (Reps.reverse h3) (Reps.one h2)
theorem Reps.ints : ∀ {ns : List Int} {vs : List V}, Reps K F (ns.map D.int) vs → vs = ns.map V.int
  | [], vs, h => h
  | n :: ns, vs, h => by
    obtain ⟨w, r, rfl, h2, h3⟩ := h
    rw [show w = V.int n from h2, Reps.ints h3]; rfl
theorem Reps.of_ints : ∀ (ns : List Int), Reps K F (ns.map D.int) (ns.map V.int)
  | [] => rfl
  | n :: ns => ⟨_, _, rfl, rfl, Reps.of_ints ns⟩
theorem Reps.bls : ∀ {ns : List Bool} {vs : List V}, Reps K F (ns.map D.bl) vs → vs = ns.map V.bl
  | [], vs, h => h
  | n :: ns, vs, h => by
    obtain ⟨w, r, rfl, h2, h3⟩ := h
    rw [show w = V.bl n from h2, Reps.bls h3]; rfl
theorem Reps.strs : ∀ {ns : List Str} {vs : List V}, Reps K F (ns.map D.str) vs → vs = ns.map V.str
  | [], vs, h => h
  | n :: ns, vs, h => by
    obtain ⟨w, r, rfl, h2, h3⟩ := h
    rw [show w = V.str n from h2, Reps.strs h3]; rfl

/-! ### how the heap goes on -/
structure Adv (F H F' H' : Hp) : Prop where
  f : Ex F F'
  h : Ex H H'
  in_ : Ex F' H'
  out : ∀ p, F p = none → H p ≠ none → F' p = none
theorem Adv.refl (e : Ex F H) : Adv F H F H := ⟨Ex.refl F, Ex.refl H, e, fun _ h _ => h⟩
theorem Adv.trans {F1 H1 F2 H2 F3 H3 : Hp} (a : Adv F1 H1 F2 H2) (b : Adv F2 H2 F3 H3) : Adv F1 H1 F3 H3 :=
  ⟨a.f.trans b.f, a.h.trans b.h, b.in_, fun p h1 h2 => b.out p (a.out p h1 h2) fun z => h2 (Evl.fresh_back a.h z)⟩
theorem none_of_ex (e : Ex F H) {p : Addr} (h : H p = none) : F p = none := Evl.fresh_back e h
theorem Adv.new {p : Addr} {o : HO} (e : Ex F H) (h : H p = none) : Adv F H (upd F p o) (upd H p o) := by
  refine ⟨Ex.new (none_of_ex e h), Ex.new h, fun a u q => ?_, fun q h1 h2 => ?_⟩
  · by_cases z : a = p
    · subst z; rw [upd_same] at q ⊢; exact q
    · rw [upd_ne z] at q ⊢; exact e a u q
  · have z : q ≠ p := fun z => h2 (by rw [z]; exact h)
    rw [upd_ne z]; exact h1
/-- a new object, not frozen -/
theorem Adv.newO {p : Addr} {o : HO} (e : Ex F H) (h : H p = none) : Adv F H F (upd H p o) :=
  ⟨Ex.refl F, Ex.new h, fun a u q => (Ex.new h) a u (e a u q), fun _ h1 _ => h1⟩
end

/-! ### what a def gives -/
inductive Res (α : Type) where
  | ok (x : α) | exc (c : Str) | stuck
namespace Res
def bind {α β : Type} : Res α → (α → Res β) → Res β
  | .ok x, f => f x
  | .exc c, _ => .exc c
  | .stuck, _ => .stuck
theorem bind_ok {α β : Type} (x : α) (f : α → Res β) : (Res.ok x).bind f = f x := rfl
theorem bind_exc {α β : Type} (c : Str) (f : α → Res β) : (Res.exc c : Res α).bind f = .exc c := rfl
theorem bind_stuck {α β : Type} (f : α → Res β) : (Res.stuck : Res α).bind f = .stuck := rfl
theorem bind_assoc {α β γ : Type} (m : Res α) (f : α → Res β) (g : β → Res γ) : (m.bind f).bind g = m.bind fun x => (f x).bind g := by
  cases m <;> rfl
theorem bind_pure {α : Type} (m : Res α) : m.bind Res.ok = m := by cases m <;> rfl
/-- a condition that must hold -/
@[irreducible] noncomputable def need {α : Type} (p : Prop) (m : Res α) : Res α := @ite _ p (Classical.propDecidable p) m .stuck
theorem need_pos {α : Type} {p : Prop} {m : Res α} (h : p) : need p m = m := by unfold need; exact if_pos h
theorem need_neg {α : Type} {p : Prop} {m : Res α} (h : ¬ p) : need p m = .stuck := by unfold need; exact if_neg h
def map {α β : Type} (f : α → β) (m : Res α) : Res β := m.bind fun x => .ok (f x)
end Res

/-! ### slots -/
inductive Sk where
  | im (e : D) | ow (xs : List D) | raw (v : V) | oi (p : Option Addr) (c : Str) (ks : List Str) (ds : List D)
/-- what only this frame knows -/
def Sk.own : Sk → Bool
  | .ow _ => true
  | .oi _ _ _ _ => true
  | _ => false
abbrev En := List (Option Sk)
def SkOk (K : PySem.W.Frag) (H0 F H : Hp) : Sk → V → Prop
  | .im e, v => Rep K F e v
  | .ow xs, v => ∃ p vs, v = .ref p ∧ H0 p = none ∧ F p = none ∧ H p = some (.lst vs) ∧ Reps K F xs vs
  | .raw w, v => v = w
  | .oi pp c ks ds, v => ∃ p dx vs, v = .ref p ∧ H0 p = none ∧ F p = none ∧ H p = some (.ins (He.ga K c) dx (ks.zip vs)) ∧ ks.length = vs.length ∧ Reps K F ds vs ∧ ∀ a, pp = some a → p = a
structure Sl (K : PySem.W.Frag) (F0 H0 F H : Hp) (σ : L2.St) (env : En) : Prop where
  adv : Adv F0 H0 F H
  slot : ∀ (i : Nat) (sk : Sk), env[i]? = some (some sk) → ∃ v, σ[i]? = some (some v) ∧ SkOk K H0 F H sk v
  dis : ∀ (i j : Nat) (sk sk' : Sk) (p : Addr), i ≠ j → env[i]? = some (some sk) → env[j]? = some (some sk') → sk.own = true → sk'.own = true → σ[i]? = some (some (.ref p)) → σ[j]? ≠ some (some (.ref p))
  len : σ.length = env.length
section
variable {K : PySem.W.Frag} {F0 H0 F H F' H' : Hp} {σ : L2.St} {env : En}
theorem Sl.ex (S : Sl K F0 H0 F H σ env) : Ex F H := S.adv.in_
theorem SkOk.adv {sk : Sk} {v : V} (a : Adv F H F' H') (h : SkOk K H0 F H sk v) : SkOk K H0 F' H' sk v := by
  cases sk with
  | im e => exact Rep.mono a.f _ _ h
  | ow xs =>
    obtain ⟨p, vs, e1, e2, e3, e4, e5⟩ := h
    exact ⟨p, vs, e1, e2, a.out p e3 (by rw [e4]; simp), a.h _ _ e4, Reps.mono a.f _ _ e5⟩
  | raw w => exact h
  | oi pp c ks ds =>
    obtain ⟨p, dx, vs, e1, e2, e3, e4, e5, e6, e7⟩ := h
    exact ⟨p, dx, vs, e1, e2, a.out p e3 (by rw [e4]; simp), a.h _ _ e4, e5, Reps.mono a.f _ _ e6, e7⟩
theorem SkOk.at {sk : Sk} {v : V} (ho : sk.own = true) (h : SkOk K H0 F H sk v) : ∃ p o, v = .ref p ∧ H0 p = none ∧ F p = none ∧ H p = some o := by
  cases sk with
  | im e => cases ho
  | raw w => cases ho
  | ow xs =>
    obtain ⟨p, vs, e1, e2, e3, e4, e5⟩ := h
    exact ⟨p, _, e1, e2, e3, e4⟩
  | oi pp c ks ds =>
    obtain ⟨p, dx, vs, e1, e2, e3, e4, e5, e6, e7⟩ := h
    exact ⟨p, _, e1, e2, e3, e4⟩
theorem SkOk.updH {sk : Sk} {v : V} {p : Addr} {o : HO} (hn : sk.own = true → v ≠ .ref p) (h : SkOk K H0 F H sk v) : SkOk K H0 F (upd H p o) sk v := by
  cases sk with
  | im e => exact h
  | raw w => exact h
  | ow xs =>
    obtain ⟨q, vs, e1, e2, e3, e4, e5⟩ := h
    have hne : q ≠ p := fun z => hn rfl (by rw [e1, z])
    exact ⟨q, vs, e1, e2, e3, by rw [upd_ne hne]; exact e4, e5⟩
  | oi pp c ks ds =>
    obtain ⟨q, dx, vs, e1, e2, e3, e4, e5, e6, e7⟩ := h
    have hne : q ≠ p := fun z => hn rfl (by rw [e1, z])
    exact ⟨q, dx, vs, e1, e2, e3, by rw [upd_ne hne]; exact e4, e5, e6, e7⟩
theorem SkOk.updF {sk : Sk} {v : V} {p : Addr} {o : HO} (hf : F p = none) (hn : sk.own = true → v ≠ .ref p) (h : SkOk K H0 F H sk v) : SkOk K H0 (upd F p o) H sk v := by
  have ad : Ex F (upd F p o) := Ex.new hf
  cases sk with
  | im e => exact Rep.mono ad _ _ h
  | raw w => exact h
  | ow xs =>
    obtain ⟨q, vs, e1, e2, e3, e4, e5⟩ := h
    have hne : q ≠ p := fun z => hn rfl (by rw [e1, z])
    exact ⟨q, vs, e1, e2, by rw [upd_ne hne]; exact e3, e4, Reps.mono ad _ _ e5⟩
  | oi pp c ks ds =>
    obtain ⟨q, dx, vs, e1, e2, e3, e4, e5, e6, e7⟩ := h
    have hne : q ≠ p := fun z => hn rfl (by rw [e1, z])
    exact ⟨q, dx, vs, e1, e2, by rw [upd_ne hne]; exact e3, e4, e5, Reps.mono ad _ _ e6, e7⟩
theorem Sl.step (S : Sl K F0 H0 F H σ env) (a : Adv F H F' H') : Sl K F0 H0 F' H' σ env := by
  refine ⟨S.adv.trans a, fun i sk e => ?_, S.dis, S.len⟩
  obtain ⟨v, h1, h2⟩ := S.slot i sk e
  exact ⟨v, h1, h2.adv a⟩
theorem set_get {α : Type} {l : List α} {i j : Nat} {x y : α} (h : (l.set i x)[j]? = some y) : (i = j ∧ x = y) ∨ (i ≠ j ∧ l[j]? = some y) := by
  rw [List.getElem?_set] at h
  by_cases e : i = j
  · rw [if_pos e] at h
    split at h
    · exact .inl ⟨e, Option.some.inj h⟩
    · cases h
  · rw [if_neg e] at h
    exact .inr ⟨e, h⟩
theorem set_len {α : Type} {l : List α} {i : Nat} {x y : α} (h : (l.set i x)[i]? = some y) : i < l.length := by
  have h := (List.getElem?_eq_some_iff.mp h).1
  rwa [List.length_set] at h
theorem Sl.setIm (S : Sl K F0 H0 F H σ env) {i : Nat} {e : D} {v : V} (r : Rep K F e v) : Sl K F0 H0 F H (σ.set i (some v)) (env.set i (some (.im e))) := by
  refine ⟨S.adv, fun j sk q => ?_, fun j k sk sk' p hjk e1 e2 o1 o2 h1 => ?_, by rw [List.length_set, List.length_set]; exact S.len⟩
  · rcases set_get q with ⟨rfl, z⟩ | ⟨z, q⟩
    · cases z
      refine ⟨v, ?_, r⟩
      have hi : i < env.length := set_len q
      rw [List.getElem?_set_self (by rw [S.len]; exact hi)]
    · obtain ⟨w, h1, h2⟩ := S.slot j sk q
      exact ⟨w, by rw [List.getElem?_set_ne z]; exact h1, h2⟩
  · rcases set_get e1 with ⟨_, z⟩ | ⟨z1, e1⟩
    · cases z; cases o1
    rcases set_get e2 with ⟨_, z⟩ | ⟨z2, e2⟩
    · cases z; cases o2
    rw [List.getElem?_set_ne z1] at h1
    rw [List.getElem?_set_ne z2]
    exact S.dis j k sk sk' p hjk e1 e2 o1 o2 h1
/-- a new owned object -/
theorem Sl.setOwn (S : Sl K F0 H0 F H σ env) {i : Nat} {p : Addr} {sk : Sk} (hs : SkOk K H0 F H sk (.ref p)) (hn : ∀ (j : Nat) (sk' : Sk), env[j]? = some (some sk') → sk'.own = true → σ[j]? ≠ some (some (V.ref p))) :
    Sl K F0 H0 F H (σ.set i (some (.ref p))) (env.set i (some sk)) := by
  refine ⟨S.adv, fun j sk q => ?_, fun j k sk1 sk2 p' hjk e1 e2 o1 o2 h1 => ?_, by rw [List.length_set, List.length_set]; exact S.len⟩
  · rcases set_get q with ⟨rfl, z⟩ | ⟨z, q⟩
    · cases z
      refine ⟨_, ?_, hs⟩
      have hi : i < env.length := set_len q
      rw [List.getElem?_set_self (by rw [S.len]; exact hi)]
    · obtain ⟨w, h1, h2⟩ := S.slot j sk q
      exact ⟨w, by rw [List.getElem?_set_ne z]; exact h1, h2⟩
  · rcases set_get e1 with ⟨z0, z⟩ | ⟨z1, e1⟩
    · rcases set_get e2 with ⟨z2, _⟩ | ⟨z2, e2⟩
      · exact absurd (z0.symm.trans z2) hjk
      · subst z0
        rw [List.getElem?_set_ne z2]
        have hi : i < σ.length := set_len h1
        rw [List.getElem?_set_self hi] at h1
        cases h1
        exact hn k sk2 e2 o2
    · rw [List.getElem?_set_ne z1] at h1
      rcases set_get e2 with ⟨z2, z⟩ | ⟨z2, e2⟩
      · subst z2
        intro q
        have hi : i < σ.length := set_len q
        rw [List.getElem?_set_self hi] at q
        cases q
        exact hn j sk1 e1 o1 h1
      · rw [List.getElem?_set_ne z2]
        exact S.dis j k sk1 sk2 p' hjk e1 e2 o1 o2 h1
theorem Sl.setOw (S : Sl K F0 H0 F H σ env) {i : Nat} {p : Addr} {xs : List D} {vs : List V} (h0 : H0 p = none) (hf : F p = none) (hp : H p = some (.lst vs)) (hn : ∀ (j : Nat) (sk' : Sk), env[j]? = some (some sk') → sk'.own = true → σ[j]? ≠ some (some (V.ref p))) (r : Reps K F xs vs) :
    Sl K F0 H0 F H (σ.set i (some (.ref p))) (env.set i (some (.ow xs))) := S.setOwn ⟨p, vs, rfl, h0, hf, hp, r⟩ hn
/-- an owned object changes -/
theorem Sl.chgO (S : Sl K F0 H0 F H σ env) {i : Nat} {p : Addr} {sk sk' : Sk} {o : HO} (e : env[i]? = some (some sk)) (ho : sk.own = true) (hs : σ[i]? = some (some (.ref p))) (hp : F p = none) (h0 : H0 p = none) (hk : SkOk K H0 F (upd H p o) sk' (.ref p)) :
    Sl K F0 H0 F (upd H p o) σ (env.set i (some sk')) := by
  refine ⟨⟨S.adv.f, fun a u q => ?_, fun a u q => ?_, S.adv.out⟩, fun j sk q => ?_, fun j k sk1 sk2 p' hjk e1 e2 o1 o2 h1 => ?_, by rw [List.length_set]; exact S.len⟩
  · rw [upd_ne (ne_of_none q h0)]; exact S.adv.h a u q
  · rw [upd_ne (ne_of_none q hp)]; exact S.adv.in_ a u q
  · rcases set_get q with ⟨rfl, z⟩ | ⟨z, q⟩
    · cases z
      exact ⟨_, hs, hk⟩
    · obtain ⟨w, h1, h2⟩ := S.slot j sk q
      exact ⟨w, h1, h2.updH fun o2 zz => S.dis i j _ _ p z e q ho o2 hs (by rw [h1, zz])⟩
  · have own : ∀ {j : Nat} {s : Sk}, (env.set i (some sk'))[j]? = some (some s) → s.own = true → ∃ s', env[j]? = some (some s') ∧ s'.own = true := by
      intro j s q o
      rcases set_get q with ⟨rfl, _⟩ | ⟨_, q⟩
      · exact ⟨_, e, ho⟩
      · exact ⟨_, q, o⟩
    obtain ⟨_, q1, r1⟩ := own e1 o1
    obtain ⟨_, q2, r2⟩ := own e2 o2
    exact S.dis j k _ _ p' hjk q1 q2 r1 r2 h1
theorem Sl.chg (S : Sl K F0 H0 F H σ env) {i : Nat} {p : Addr} {xs ys : List D} {ws : List V} (e : env[i]? = some (some (.ow xs))) (hs : σ[i]? = some (some (.ref p))) (hp : F p = none) (h0 : H0 p = none) (r : Reps K F ys ws) :
    Sl K F0 H0 F (upd H p (.lst ws)) σ (env.set i (some (.ow ys))) := S.chgO e rfl hs hp h0 ⟨p, ws, rfl, h0, hp, upd_same, r⟩
/-- an owned object is frozen -/
theorem Sl.freezeO (S : Sl K F0 H0 F H σ env) {i : Nat} {sk : Sk} {d : D} (e : env[i]? = some (some sk)) (ho : sk.own = true) (hd : ∀ p o, SkOk K H0 F H sk (.ref p) → H p = some o → F p = none → Rep K (upd F p o) d (.ref p)) : ∃ F', Ex F F' ∧ Sl K F0 H0 F' H σ (env.set i (some (.im d))) := by
  obtain ⟨v, hs, hk⟩ := S.slot i _ e
  obtain ⟨p, o, rfl, h0, hf, hp⟩ := hk.at ho
  have ad : Ex F (upd F p o) := Ex.new hf
  have inn : Ex (upd F p o) H := fun a u q => by
    by_cases z : a = p
    · subst z; rw [upd_same] at q; cases q; exact hp
    · rw [upd_ne z] at q; exact S.ex a u q
  refine ⟨upd F p o, ad, ⟨⟨S.adv.f.trans ad, S.adv.h, inn, fun a h1 h2 => ?_⟩, fun j sk q => ?_, fun j k sk1 sk2 p' hjk e1 e2 o1 o2 h1 => ?_, by rw [List.length_set]; exact S.len⟩⟩
  · have z : a ≠ p := fun z => h2 (by rw [z]; exact h0)
    rw [upd_ne z]; exact S.adv.out a h1 h2
  · rcases set_get q with ⟨rfl, z⟩ | ⟨z, q⟩
    · cases z
      exact ⟨_, hs, hd p o hk hp hf⟩
    · obtain ⟨w, h1, h2⟩ := S.slot j sk q
      exact ⟨w, h1, h2.updF hf fun o2 zz => S.dis i j _ _ p z e q ho o2 hs (by rw [h1, zz])⟩
  · have own : ∀ {j : Nat} {s : Sk}, (env.set i (some (.im d)))[j]? = some (some s) → s.own = true → env[j]? = some (some s) := by
      intro j s q o
      rcases set_get q with ⟨rfl, z⟩ | ⟨_, q⟩
      · cases z; cases o
      · exact q
    exact S.dis j k _ _ p' hjk (own e1 o1) (own e2 o2) o1 o2 h1
theorem Sl.freeze (S : Sl K F0 H0 F H σ env) {i : Nat} {xs : List D} (e : env[i]? = some (some (.ow xs))) : ∃ F', Ex F F' ∧ Sl K F0 H0 F' H σ (env.set i (some (.im (.lst xs)))) :=
  S.freezeO e rfl fun p o h hp hf => by
    obtain ⟨q, vs, e1, _, _, e4, e5⟩ := h
    cases e1
    rw [hp] at e4; cases e4
    exact ⟨_, vs, rfl, upd_same, Reps.mono (Ex.new hf) _ _ e5⟩
theorem Sl.freezeI (S : Sl K F0 H0 F H σ env) {i : Nat} {pp : Option Addr} {c : Str} {ks : List Str} {ds : List D} (e : env[i]? = some (some (.oi pp c ks ds))) : ∃ F', Ex F F' ∧ Sl K F0 H0 F' H σ (env.set i (some (.im (.obj c ks ds)))) :=
  S.freezeO e rfl fun p o h hp hf => by
    obtain ⟨q, dx, vs, e1, _, _, e4, e5, e6, _⟩ := h
    cases e1
    rw [hp] at e4; cases e4
    exact ⟨_, dx, vs, rfl, upd_same, e5, Reps.mono (Ex.new hf) _ _ e6⟩
end
end Mi
set_option maxHeartbeats 1000000
namespace Mi
open PySem PySem.Spec L2
open Evl (Ex)

class ToDs (β : Type) where
  ds : β → List D
instance : ToDs Unit := ⟨fun _ => []⟩
instance {α β : Type} [ToD α] [ToDs β] : ToDs (α × β) := ⟨fun p => ToD.d p.1 :: ToDs.ds p.2⟩

/-! ### what follows a value -/
section
variable (K : PySem.W.Frag) (W : WX) (F H : Hp) (σ : L2.St)
def KE {α : Type} [ToD α] (Q : VK) : Res α → Prop
  | .ok x => ∀ v F' H', Adv F H F' H' → Rep K F' (toD x) v → Q v H'
  | .exc c => ∀ F' H', Adv F H F' H' → W (.ref (He.ga K c)) none σ H'
  | .stuck => False
def KA {β : Type} [ToDs β] (Q : List V → Hp → Prop) : Res β → Prop
  | .ok x => ∀ vs F' H', Adv F H F' H' → Reps K F' (ToDs.ds x) vs → Q vs H'
  | .exc c => ∀ F' H', Adv F H F' H' → W (.ref (He.ga K c)) none σ H'
  | .stuck => False
def KT (Q : Bool → Hp → Prop) : Res Bool → Prop
  | .ok b => ∀ F' H', Adv F H F' H' → Q b H'
  | .exc c => ∀ F' H', Adv F H F' H' → W (.ref (He.ga K c)) none σ H'
  | .stuck => False
def KN {α : Type} [ToD α] (Q : VK) : Res (List α) → Prop
  | .ok xs => ∀ p vs F' H', Adv F H F' H' → H p = none → F' p = none → H' p = some (.lst vs) → Reps K F' (xs.map toD) vs → Q (.ref p) H'
  | .exc c => ∀ F' H', Adv F H F' H' → W (.ref (He.ga K c)) none σ H'
  | .stuck => False
end
def EvX (K : PySem.W.Frag) (W : WX) (env : En) (te : TE) {α : Type} [ToD α] (m : Res α) : Prop :=
  ∀ F0 H0 F H σ Q, Sl K F0 H0 F H σ env → KE K W F H σ Q m → te σ H Q
def EvA (K : PySem.W.Frag) (W : WX) (env : En) (ta : TA) {β : Type} [ToDs β] (m : Res β) : Prop :=
  ∀ F0 H0 F H σ Q, Sl K F0 H0 F H σ env → KA K W F H σ Q m → ta σ H Q
def EvT (K : PySem.W.Frag) (W : WX) (env : En) (tt : TT) (m : Res Bool) : Prop :=
  ∀ F0 H0 F H σ Q, Sl K F0 H0 F H σ env → KT K W F H σ Q m → tt σ H Q
def EvN (K : PySem.W.Frag) (W : WX) (env : En) (te : TE) {α : Type} [ToD α] (m : Res (List α)) : Prop :=
  ∀ F0 H0 F H σ Q, Sl K F0 H0 F H σ env → KN K W F H σ Q m → te σ H Q

section
variable {K : PySem.W.Frag} {W : WX} {F H F' H' : Hp} {σ : L2.St} {env : En} {α β γ τ : Type} [ToD α] [ToD β] [ToD γ] [ToD τ] {ta tb te tc : TE} {tt tu : TT} {r : R2}

/-- from what follows a whole to what follows its first part -/
theorem KE.cut {Q : VK} {Q1 : VK} {m : Res α} {f : α → Res β} (ex : Ex F H) (h : KE K W F H σ Q (m.bind f))
    (k : ∀ x v F' H', m = .ok x → Adv F H F' H' → Rep K F' (toD x) v → KE K W F' H' σ Q (f x) → Q1 v H') : KE K W F H σ Q1 m := by
  cases m with
  | ok x =>
    intro v F1 H1 a r
    refine k x v F1 H1 rfl a r ?_
    have h : KE K W F H σ Q (f x) := h
    revert h
    generalize f x = y
    intro h
    cases y with
    | ok y => exact fun v F2 H2 b q => h v F2 H2 (a.trans b) q
    | exc c => exact fun F2 H2 b => h F2 H2 (a.trans b)
    | stuck => exact h.elim
  | exc c => exact h
  | stuck => exact h.elim
theorem KE.adv {Q : VK} {m : Res β} (a : Adv F H F' H') (h : KE K W F H σ Q m) : KE K W F' H' σ Q m := by
  cases m with
  | ok y => exact fun v F2 H2 b q => h v F2 H2 (a.trans b) q
  | exc c => exact fun F2 H2 b => h F2 H2 (a.trans b)
  | stuck => exact h.elim
theorem KT.adv {Q : Bool → Hp → Prop} {m : Res Bool} (a : Adv F H F' H') (h : KT K W F H σ Q m) : KT K W F' H' σ Q m := by
  cases m with
  | ok y => exact fun F2 H2 b => h F2 H2 (a.trans b)
  | exc c => exact fun F2 H2 b => h F2 H2 (a.trans b)
  | stuck => exact h.elim
theorem KA.adv {δ : Type} [ToDs δ] {Q : List V → Hp → Prop} {m : Res δ} (a : Adv F H F' H') (h : KA K W F H σ Q m) : KA K W F' H' σ Q m := by
  cases m with
  | ok y => exact fun v F2 H2 b q => h v F2 H2 (a.trans b) q
  | exc c => exact fun F2 H2 b => h F2 H2 (a.trans b)
  | stuck => exact h.elim

/-- general: te then a use of its value -/
theorem use {Q Q1 : VK} {m : Res α} {F0 H0 : Hp} (hv : EvX K W env te m) (S : Sl K F0 H0 F H σ env)
    (hx : ∀ c, m = .exc c → ∀ F' H', Adv F H F' H' → W (.ref (He.ga K c)) none σ H') (hs : m ≠ .stuck)
    (k : ∀ x v F' H', m = .ok x → Adv F H F' H' → Rep K F' (toD x) v → Q1 v H') : te σ H Q1 := by
  refine hv F0 H0 F H σ Q1 S ?_
  cases m with
  | ok x => exact fun v F' H' a q => k x v F' H' rfl a q
  | exc c => exact hx c rfl
  | stuck => exact hs rfl

/-! ### names and constants -/
theorem ev_var {i : Nat} {x : α} (h : env[i]? = some (some (.im (toD x)))) : EvX K W env (tVar i) (.ok x) := fun F0 H0 F H σ Q S k => by
  obtain ⟨v, e, q⟩ := S.slot i _ h
  exact ⟨v, e, k v F H (Adv.refl S.ex) q⟩
theorem ev_int {i : Int} : EvX K W env (tC (.int i)) (.ok i) := fun F0 H0 F H σ Q S k => k _ F H (Adv.refl S.ex) rfl
theorem ev_bl {b : Bool} : EvX K W env (tC (.bl b)) (.ok b) := fun F0 H0 F H σ Q S k => k _ F H (Adv.refl S.ex) rfl
theorem ev_str {x : Str} : EvX K W env (tC (.str x)) (.ok x) := fun F0 H0 F H σ Q S k => k _ F H (Adv.refl S.ex) rfl
theorem ev_non : EvX K W env (tC .non) (.ok ()) := fun F0 H0 F H σ Q S k => k _ F H (Adv.refl S.ex) rfl
theorem ev_noneO : EvX K W env (tC .non) (.ok (none : Option α)) := fun F0 H0 F H σ Q S k => k _ F H (Adv.refl S.ex) rfl
theorem ev_tyc {n : String} : EvX K W env (tC (.ty n)) (.ok (D.ty n)) := fun F0 H0 F H σ Q S k => k _ F H (Adv.refl S.ex) rfl
/-- the same value in another type -/
theorem ev_as {m : Res α} {m' : Res β} (h : EvX K W env te m) (f : α → β) (e : ∀ x, toD (f x) = toD x) (em : m.bind (fun x => .ok (f x)) = m') : EvX K W env te m' := fun F0 H0 F H σ Q S k => by
  refine h F0 H0 F H σ Q S ?_
  subst em
  cases m with
  | ok x => intro v F' H' a q; exact k v F' H' a (by rw [e]; exact q)
  | exc c => exact k
  | stuck => exact k.elim

/-! ### operators -/
def OpX (K : PySem.W.Frag) (r : R2) (f : α → β → Res γ) : Prop := ∀ (F H : Hp) (x : α) (y : β) (v u : V) (Q : VK), Ex F H → Rep K F (toD x) v → Rep K F (toD y) u →
  KE K (fun _ _ _ _ => False) F H [] Q (f x y) → r v u H Q
theorem KE.exc_false {Q : VK} {c : Str} (h : KE K (fun _ _ _ _ => False) F H [] Q (.exc c : Res α)) (e : Ex F H) : False := h F H (Adv.refl e)
/-- operators let nothing out -/
def Mild (f : α → β → Res γ) : Prop := ∀ x y c, f x y ≠ .exc c
theorem KE.mild {Q : VK} {m : Res γ} (hm : ∀ c, m ≠ .exc c) (h : KE K W F H σ Q m) : KE K (fun _ _ _ _ => False) F H [] Q m := by
  cases m with
  | ok x => exact h
  | exc c => exact absurd rfl (hm c)
  | stuck => exact h.elim
theorem ev_op {m1 : Res α} {m2 : Res β} {f : α → β → Res γ} (ho : OpX K r f) (hm : Mild f) (ha : EvX K W env ta m1) (hb : EvX K W env tb m2) :
    EvX K W env (tOp r ta tb) (m1.bind fun x => m2.bind fun y => f x y) := fun F0 H0 F H σ Q S k => by
  refine ha F0 H0 F H σ _ S (KE.cut S.ex k fun x v F1 H1 e1 a1 r1 k1 => ?_)
  refine hb F0 H0 F1 H1 σ _ (S.step a1) (KE.cut a1.in_ k1 fun y u F2 H2 e2 a2 r2 k2 => ?_)
  exact ho F2 H2 x y v u Q a2.in_ (Rep.mono a2.f _ _ r1) r2 (k2.mild (hm x y))
theorem mild_ok {g : α → β → γ} : Mild (fun x y => Res.ok (g x y)) := fun _ _ _ h => nomatch h
theorem mild_need {p : α → β → Prop} {g : α → β → γ} : Mild (fun x y => Res.need (p x y) (.ok (g x y))) := fun x y c h => by
  by_cases q : p x y
  · have h : Res.need (p x y) (.ok (g x y)) = .exc c := h
    rw [Res.need_pos q] at h; cases h
  · have h : Res.need (p x y) (.ok (g x y)) = .exc c := h
    rw [Res.need_neg q] at h; cases h
theorem opx_I0 {g : Int → Int → Int} : OpX K (rI0 fun i j => .int (g i j)) (fun i j => .ok (g i j)) := fun F H x y v u Q e h1 h2 k =>
  ⟨x, y, h1, h2, k _ F H (Adv.refl e) rfl⟩
theorem opx_B0 {g : Int → Int → Bool} : OpX K (rI0 fun i j => .bl (g i j)) (fun i j => .ok (g i j)) := fun F H x y v u Q e h1 h2 k =>
  ⟨x, y, h1, h2, k _ F H (Adv.refl e) rfl⟩
theorem opx_I {C : Int → Int → Prop} {g : Int → Int → Int} : OpX K (rI C fun i j => .int (g i j)) (fun i j => .need (C i j) (.ok (g i j))) := fun F H x y v u Q e h1 h2 k => by
  by_cases c : C x y
  · have k : KE K (fun _ _ _ _ => False) F H [] Q (Res.need (C x y) (.ok (g x y))) := k
    rw [Res.need_pos c] at k
    exact ⟨x, y, h1, h2, c, k _ F H (Adv.refl e) rfl⟩
  · have k : KE K (fun _ _ _ _ => False) F H [] Q (Res.need (C x y) (.ok (g x y))) := k
    rw [Res.need_neg c] at k
    exact k.elim
/-- the same where the condition is known -/
theorem ev_opI {m1 m2 : Res Int} {C : Int → Int → Prop} {g : Int → Int → Int} (hc : ∀ x y, m1 = .ok x → m2 = .ok y → C x y) (ha : EvX K W env ta m1) (hb : EvX K W env tb m2) :
    EvX K W env (tOp (rI C fun i j => .int (g i j)) ta tb) (m1.bind fun x => m2.bind fun y => .ok (g x y)) := fun F0 H0 F H σ Q S k => by
  refine ha F0 H0 F H σ _ S (KE.cut S.ex k fun x v F1 H1 e1 a1 r1 k1 => ?_)
  refine hb F0 H0 F1 H1 σ _ (S.step a1) (KE.cut a1.in_ k1 fun y u F2 H2 e2 a2 r2 k2 => ?_)
  exact ⟨x, y, r1, r2, hc x y e1 e2, k2 _ F2 H2 (Adv.refl a2.in_) rfl⟩
theorem ev_un {m1 : Res Int} {g : Int → Int} (ha : EvX K W env ta m1) : EvX K W env (tUn (rU fun i => .int (g i)) ta) (m1.bind fun x => .ok (g x)) := fun F0 H0 F H σ Q S k => by
  refine ha F0 H0 F H σ _ S (KE.cut S.ex k fun x v F1 H1 e1 a1 r1 k1 => ?_)
  exact ⟨x, r1, k1 _ F1 H1 (Adv.refl a1.in_) rfl⟩
/-- == of two ints, two bools, two texts -/
theorem opx_eqI : OpX K rEq (fun (i j : Int) => .ok (decide (i = j))) := fun F H x y v u Q e h1 h2 k => by
  cases (show v = V.int x from h1); cases (show u = V.int y from h2)
  refine ⟨rfl, ?_⟩
  rw [show decide (V.int x = V.int y) = decide (x = y) by rw [dec_int]; rfl]
  exact k _ F H (Adv.refl e) rfl
theorem opx_neI : OpX K rNe (fun (i j : Int) => .ok (!decide (i = j))) := fun F H x y v u Q e h1 h2 k => by
  cases (show v = V.int x from h1); cases (show u = V.int y from h2)
  refine ⟨rfl, ?_⟩
  rw [show decide (V.int x = V.int y) = decide (x = y) by rw [dec_int]; rfl]
  exact k _ F H (Adv.refl e) rfl
theorem opx_eqB : OpX K rEq (fun (i j : Bool) => .ok (i == j)) := fun F H x y v u Q e h1 h2 k => by
  cases (show v = V.bl x from h1); cases (show u = V.bl y from h2)
  refine ⟨rfl, ?_⟩
  rw [dec_bl]
  exact k _ F H (Adv.refl e) rfl
theorem opx_neB : OpX K rNe (fun (i j : Bool) => .ok (!(i == j))) := fun F H x y v u Q e h1 h2 k => by
  cases (show v = V.bl x from h1); cases (show u = V.bl y from h2)
  refine ⟨rfl, ?_⟩
  rw [dec_bl]
  exact k _ F H (Adv.refl e) rfl
theorem opx_eqS : OpX K rEq (fun (i j : Str) => .ok (i == j)) := fun F H x y v u Q e h1 h2 k => by
  cases (show v = V.str x from h1); cases (show u = V.str y from h2)
  refine ⟨rfl, ?_⟩
  rw [dec_str]
  exact k _ F H (Adv.refl e) rfl
theorem opx_neS : OpX K rNe (fun (i j : Str) => .ok (!(i == j))) := fun F H x y v u Q e h1 h2 k => by
  cases (show v = V.str x from h1); cases (show u = V.str y from h2)
  refine ⟨rfl, ?_⟩
  rw [dec_str]
  exact k _ F H (Adv.refl e) rfl
def D.isNon : D → Bool
  | .non => true
  | _ => false
theorem rep_isNon : ∀ {x : D} {v : V}, Rep K F x v → decide (v = V.non) = x.isNon
  | .non, v, h => by rw [show v = V.non from h]; rfl
  | .bl b, v, h => by rw [show v = V.bl b from h]; rfl
  | .int b, v, h => by rw [show v = V.int b from h]; rfl
  | .str b, v, h => by rw [show v = V.str b from h]; rfl
  | .ty b, v, h => by rw [show v = V.ty b from h]; rfl
  | .tup ds, v, h => by obtain ⟨a, vs, rfl, _⟩ := h; rfl
  | .lst ds, v, h => by obtain ⟨a, vs, rfl, _⟩ := h; rfl
  | .obj c ks ds, v, h => by obtain ⟨a, dx, vs, rfl, _⟩ := h; rfl
  | .ro ds, v, h => by obtain ⟨a, vs, rfl, _⟩ := h; rfl
theorem opx_isN : OpX K (fun x y H Q => y = .non ∧ Q (.bl (decide (x = .non))) H) (fun (x : α) (_ : Unit) => .ok (toD x).isNon) := fun F H x y v u Q e h1 h2 k =>
  ⟨h2, by rw [rep_isNon h1]; exact k _ F H (Adv.refl e) rfl⟩
theorem opx_notN : OpX K (fun x y H Q => y = .non ∧ Q (.bl (!decide (x = .non))) H) (fun (x : α) (_ : Unit) => .ok (!(toD x).isNon)) := fun F H x y v u Q e h1 h2 k =>
  ⟨h2, by rw [rep_isNon h1]; exact k _ F H (Adv.refl e) rfl⟩

/-! ### == of data -/
mutual
def D.py : D → PyData
  | .non => .none
  | .bl b => .bool b
  | .int i => .int i
  | .str s => .str s
  | .ty _ => .none
  | .tup xs => .tuple (pyL xs)
  | .lst xs => .list (pyL xs)
  | .obj _ _ _ => .none
  | .ro _ => .none
def pyL : List D → List PyData
  | [] => []
  | x :: xs => D.py x :: pyL xs
end
mutual
/-- no objects, no classes within -/
def D.flat : D → Bool
  | .ty _ => false
  | .obj _ _ _ => false
  | .ro _ => false
  | .tup xs => flatL xs
  | .lst xs => flatL xs
  | _ => true
def flatL : List D → Bool
  | [] => true
  | x :: xs => D.flat x && flatL xs
end
mutual
theorem dp_of : ∀ {x : D} {v : V}, Rep K F x v → x.flat = true → Dp K F v x.py
  | .non, v, h, _ => by rw [show v = V.non from h]; exact .non
  | .bl b, v, h, _ => by rw [show v = V.bl b from h]; exact .bl b
  | .int b, v, h, _ => by rw [show v = V.int b from h]; exact .int b
  | .str b, v, h, _ => by rw [show v = V.str b from h]; exact .str b
  | .ty b, v, h, q => by cases q
  | .tup ds, v, h, q => by obtain ⟨a, vs, rfl, h2, h3⟩ := h; exact .tup h2 (dps_of h3 q)
  | .lst ds, v, h, q => by obtain ⟨a, vs, rfl, h2, h3⟩ := h; exact .lst (Evl.sq_of h2) (dps_of h3 q)
  | .obj c ks ds, v, h, q => by cases q
  | .ro ds, v, h, q => by cases q
theorem dps_of : ∀ {xs : List D} {vs : List V}, Reps K F xs vs → flatL xs = true → DpAll K F vs (pyL xs)
  | [], vs, h, _ => by rw [show vs = [] from h]; exact .nil
  | x :: xs, vs, h, q => by
    obtain ⟨v, r, rfl, h2, h3⟩ := h
    have q2 := Bool.and_eq_true_iff.mp (show (D.flat x && flatL xs) = true from q)
    exact .cons (dp_of h2 q2.1) (dps_of h3 q2.2)
end
mutual
theorem Dp.mono {e : Ex F F'} : ∀ {v : V} {x : PyData}, Dp K F v x → Dp K F' v x
  | _, _, .non => .non
  | _, _, .bl b => .bl b
  | _, _, .int b => .int b
  | _, _, .str b => .str b
  | _, _, .lst h1 h2 => .lst (Evl.ex_l e h1) (Dps.mono (e := e) h2)
  | _, _, .tup h1 h2 => .tup (Evl.ex_t e h1) (Dps.mono (e := e) h2)
theorem Dps.mono {e : Ex F F'} : ∀ {v : List V} {x : List PyData}, DpAll K F v x → DpAll K F' v x
  | _, _, .nil => .nil
  | _, _, .cons h1 h2 => .cons (Dp.mono (e := e) h1) (Dps.mono (e := e) h2)
end
/-- data that == may be asked of -/
def D.okq (x : D) : Bool := x.flat && SeqAt.shaped x.py
def pyEq (x y : D) : Bool := PyData.eqv x.py y.py
theorem opx_eqD : OpX K (rEqD K) (fun (x : α) (y : β) => .need ((toD x).okq = true ∧ (toD y).okq = true) (.ok (pyEq (toD x) (toD y)))) := fun F H x y v u Q e h1 h2 k => by
  dsimp only at k
  by_cases c : (toD x).okq = true ∧ (toD y).okq = true
  · rw [Res.need_pos c] at k
    obtain ⟨c1, c2⟩ := c
    obtain ⟨a1, a2⟩ := Bool.and_eq_true_iff.mp c1
    obtain ⟨b1, b2⟩ := Bool.and_eq_true_iff.mp c2
    exact ⟨_, _, Dp.mono (e := e) (dp_of h1 a1), Dp.mono (e := e) (dp_of h2 b1), a2, b2, k _ F H (Adv.refl e) rfl⟩
  · rw [Res.need_neg c] at k
    exact k.elim
theorem opx_neD : OpX K (rNeD K) (fun (x : α) (y : β) => .need ((toD x).okq = true ∧ (toD y).okq = true) (.ok (!pyEq (toD x) (toD y)))) := fun F H x y v u Q e h1 h2 k => by
  dsimp only at k
  by_cases c : (toD x).okq = true ∧ (toD y).okq = true
  · rw [Res.need_pos c] at k
    obtain ⟨c1, c2⟩ := c
    obtain ⟨a1, a2⟩ := Bool.and_eq_true_iff.mp c1
    obtain ⟨b1, b2⟩ := Bool.and_eq_true_iff.mp c2
    exact ⟨_, _, Dp.mono (e := e) (dp_of h1 a1), Dp.mono (e := e) (dp_of h2 b1), a2, b2, k _ F H (Adv.refl e) rfl⟩
  · rw [Res.need_neg c] at k
    exact k.elim

/-! ### an item -/
def idx {α : Type} (xs : List α) (i : Int) : Res α := match atI xs i with
  | some x => .ok x
  | none => .stuck
theorem idx_mild {α : Type} (xs : List α) (i : Int) (c : Str) : idx xs i ≠ .exc c := by
  unfold idx; split <;> intro h <;> cases h
theorem atI_map {α β : Type} (f : α → β) (xs : List α) (i : Int) : atI (xs.map f) i = (atI xs i).map f := by
  unfold atI
  rw [List.length_map]
  cases ixN xs.length i with
  | none => rfl
  | some j => simp
theorem Reps.at {xs : List D} {vs : List V} {i : Int} {x : D} (h : Reps K F xs vs) (e : atI xs i = some x) : ∃ v, atI vs i = some v ∧ Rep K F x v := by
  unfold atI at e ⊢
  rw [← h.length]
  cases q : ixN xs.length i with
  | none => rw [q] at e; cases e
  | some j => rw [q] at e; exact Reps.get h e
theorem opx_ixL : OpX K (rIxL K) (fun (xs : List α) (i : Int) => idx xs i) := fun F H xs i v u Q e h1 h2 k => by
  obtain ⟨a, vs, rfl, hl, hr⟩ := h1
  cases (show u = V.int i from h2)
  dsimp only [idx] at k
  cases q : atI xs i with
  | none => rw [q] at k; exact k.elim
  | some x =>
    rw [q] at k
    obtain ⟨w, hw, rw_⟩ := Reps.at (i := i) hr (x := toD x) (by rw [atI_map, q]; rfl)
    exact ⟨a, vs, i, w, rfl, rfl, sq_ex e hl, hw, k _ F H (Adv.refl e) rw_⟩
theorem opx_ixT : OpX K (rIxT K) (fun (xs : Tu α) (i : Int) => idx xs.xs i) := fun F H xs i v u Q e h1 h2 k => by
  obtain ⟨a, vs, rfl, hl, hr⟩ := h1
  cases (show u = V.int i from h2)
  dsimp only [idx] at k
  cases q : atI xs.xs i with
  | none => rw [q] at k; exact k.elim
  | some x =>
    rw [q] at k
    obtain ⟨w, hw, rw_⟩ := Reps.at (i := i) hr (x := toD x) (by rw [atI_map, q]; rfl)
    exact ⟨a, vs, i, w, rfl, rfl, Evl.ex_t e hl, hw, k _ F H (Adv.refl e) rw_⟩
/-- t[i], i written, t a tuple whose parts have types of their own -/
theorem ev_ixTC {m : Res α} {i : Int} {f : α → β} (ha : EvX K W env ta m) (hf : ∀ x, ∃ ds, toD x = .tup ds ∧ atI ds i = some (toD (f x))) :
    EvX K W env (tOp (rIxT K) ta (tC (.int i))) (m.bind fun x => .ok (f x)) := fun F0 H0 F H σ Q S k => by
  refine ha F0 H0 F H σ _ S (KE.cut S.ex k fun x v F1 H1 e1 a1 r1 k1 => ?_)
  obtain ⟨ds, e, q⟩ := hf x
  rw [e] at r1
  obtain ⟨a, vs, rfl, hl, hr⟩ := r1
  obtain ⟨w, hw, rw_⟩ := Reps.at (i := i) hr q
  exact ⟨a, vs, i, w, rfl, rfl, Evl.ex_t a1.in_ hl, hw, k1 _ F1 H1 (Adv.refl a1.in_) rw_⟩
/-- xs[i], xs the owned list of slot j -/
theorem ev_ixO {j : Nat} {xs : List α} {m : Res Int} (h : env[j]? = some (some (.ow (xs.map toD)))) (hb : EvX K W env tb m) : EvX K W env (tOp (rIxL K) (tVar j) tb) (m.bind fun i => idx xs i) := fun F0 H0 F H σ Q S k => by
  obtain ⟨v, e, p, vs, rfl, h0, hf, hp, hr⟩ := S.slot j _ h
  refine ⟨_, e, ?_⟩
  refine hb F0 H0 F H σ _ S (KE.cut S.ex k fun i u F1 H1 e1 a1 r1 k1 => ?_)
  cases (show u = V.int i from r1)
  unfold idx at k1
  cases q : atI xs i with
  | none => rw [q] at k1; exact k1.elim
  | some x =>
    rw [q] at k1
    obtain ⟨w, hw, rw_⟩ := Reps.at (i := i) hr (x := toD x) (by rw [atI_map, q]; rfl)
    exact ⟨p, vs, i, w, rfl, rfl, .inl (.inl (a1.h _ _ hp)), hw, k1 _ F1 H1 (Adv.refl a1.in_) (Rep.mono a1.f _ _ rw_)⟩

/-! ### tests, and, or, not -/
theorem et_test {m : Res Bool} (ha : EvX K W env te m) : EvT K W env (tTest te) m := fun F0 H0 F H σ Q S k => by
  refine ha F0 H0 F H σ _ S ?_
  cases m with
  | ok b => exact fun v F' H' a q => ⟨b, q, k F' H' a⟩
  | exc c => exact k
  | stuck => exact k.elim
theorem et_B {m : Res Bool} (ha : EvX K W env te m) : EvT K W env (tB te) m := et_test ha
theorem et_not {m : Res Bool} (ha : EvT K W env tt m) : EvT K W env (tNot tt) (m.bind fun b => .ok (!b)) := fun F0 H0 F H σ Q S k => by
  refine ha F0 H0 F H σ _ S ?_
  cases m with
  | ok b => exact k
  | exc c => exact k
  | stuck => exact k.elim
theorem et_and {m1 m2 : Res Bool} (ha : EvT K W env tt m1) (hb : EvT K W env tu m2) : EvT K W env (tAnd tt tu) (m1.bind fun b => cond b m2 (.ok false)) := fun F0 H0 F H σ Q S k => by
  refine ha F0 H0 F H σ _ S ?_
  cases m1 with
  | ok b =>
    intro F' H' a
    cases b with
    | true =>
      have k : KT K W F H σ Q m2 := k
      show tu σ H' Q
      exact hb F0 H0 F' H' σ Q (S.step a) (k.adv a)
    | false => exact k F' H' a
  | exc c => exact k
  | stuck => exact k.elim
theorem et_or {m1 m2 : Res Bool} (ha : EvT K W env tt m1) (hb : EvT K W env tu m2) : EvT K W env (tOr tt tu) (m1.bind fun b => cond b (.ok true) m2) := fun F0 H0 F H σ Q S k => by
  refine ha F0 H0 F H σ _ S ?_
  cases m1 with
  | ok b =>
    intro F' H' a
    cases b with
    | false =>
      have k : KT K W F H σ Q m2 := k
      show tu σ H' Q
      exact hb F0 H0 F' H' σ Q (S.step a) (k.adv a)
    | true => exact k F' H' a
  | exc c => exact k
  | stuck => exact k.elim
theorem ev_andV {m1 m2 : Res Bool} (ha : EvX K W env ta m1) (hb : EvX K W env tb m2) : EvX K W env (tAndV ta tb) (m1.bind fun b => cond b m2 (.ok false)) := fun F0 H0 F H σ Q S k => by
  refine ha F0 H0 F H σ _ S ?_
  cases m1 with
  | ok b =>
    intro v F' H' a r
    refine ⟨b, r, ?_⟩
    cases b with
    | true =>
      have k : KE K W F H σ Q m2 := k
      exact hb F0 H0 F' H' σ Q (S.step a) (k.adv a)
    | false => exact k _ F' H' a rfl
  | exc c => exact k
  | stuck => exact k.elim
theorem ev_orV {m1 m2 : Res Bool} (ha : EvX K W env ta m1) (hb : EvX K W env tb m2) : EvX K W env (tOrV ta tb) (m1.bind fun b => cond b (.ok true) m2) := fun F0 H0 F H σ Q S k => by
  refine ha F0 H0 F H σ _ S ?_
  cases m1 with
  | ok b =>
    intro v F' H' a r
    refine ⟨b, r, ?_⟩
    cases b with
    | false =>
      have k : KE K W F H σ Q m2 := k
      exact hb F0 H0 F' H' σ Q (S.step a) (k.adv a)
    | true => exact k _ F' H' a rfl
  | exc c => exact k
  | stuck => exact k.elim
theorem ev_notV {m : Res Bool} (ha : EvX K W env ta m) : EvX K W env (tNotV ta) (m.bind fun b => .ok (!b)) := fun F0 H0 F H σ Q S k => by
  refine ha F0 H0 F H σ _ S ?_
  cases m with
  | ok b => exact fun v F' H' a r => ⟨b, r, k _ F' H' a rfl⟩
  | exc c => exact k
  | stuck => exact k.elim
theorem ev_if {m : Res Bool} {m1 m2 : Res α} (hc : EvT K W env tt m) (ha : EvX K W env ta m1) (hb : EvX K W env tb m2) : EvX K W env (tIf tt ta tb) (m.bind fun b => cond b m1 m2) := fun F0 H0 F H σ Q S k => by
  refine hc F0 H0 F H σ _ S ?_
  cases m with
  | ok b =>
    intro F' H' a
    cases b with
    | true =>
      have k : KE K W F H σ Q m1 := k
      show ta σ H' Q
      exact ha F0 H0 F' H' σ Q (S.step a) (k.adv a)
    | false =>
      have k : KE K W F H σ Q m2 := k
      show tb σ H' Q
      exact hb F0 H0 F' H' σ Q (S.step a) (k.adv a)
  | exc c => exact k
  | stuck => exact k.elim
/-- a < b < c -/
theorem ev_chain {m1 : Res α} {m2 : Res β} {m3 : Res γ} {r' : R2} {f : α → β → Res Bool} {g : β → γ → Res Bool} (ho : OpX K r f) (hf : Mild f) (ho' : OpX K r' g) (hg : Mild g) (ha : EvX K W env ta m1) (hb : EvX K W env tb m2) (hc : EvX K W env tc m3) :
    EvX K W env (tChain r r' ta tb tc) (m1.bind fun x => m2.bind fun y => (f x y).bind fun b => cond b (m3.bind fun z => g y z) (.ok false)) := fun F0 H0 F H σ Q S k => by
  refine ha F0 H0 F H σ _ S (KE.cut S.ex k fun x v F1 H1 e1 a1 r1 k1 => ?_)
  refine hb F0 H0 F1 H1 σ _ (S.step a1) (KE.cut a1.in_ k1 fun y u F2 H2 e2 a2 r2 k2 => ?_)
  refine ho F2 H2 x y v u _ a2.in_ (Rep.mono a2.f _ _ r1) r2 ?_
  cases q : f x y with
  | ok b =>
    rw [q] at k2
    intro w F3 H3 a3 rb
    refine ⟨b, rb, ?_⟩
    cases b with
    | true =>
      have k3 : KE K W F2 H2 σ Q (m3.bind fun z => g y z) := k2
      show tc σ H3 _
      refine hc F0 H0 F3 H3 σ _ (((S.step a1).step a2).step a3) (KE.cut a3.in_ (k3.adv a3) fun z w F4 H4 e4 a4 r4 k4 => ?_)
      exact ho' F4 H4 y z u w Q a4.in_ (Rep.mono (a3.trans a4).f _ _ r2) r4 (k4.mild (hg y z))
    | false => exact k2 _ F3 H3 a3 rfl
  | exc c => exact absurd q (hf x y c)
  | stuck => rw [q] at k2; exact k2.elim

/-! ### arguments, displays, calls -/
theorem ea_nil : EvA K W env tNil (.ok ()) := fun F0 H0 F H σ Q S k => k [] F H (Adv.refl S.ex) rfl
theorem ea_cons {δ : Type} [ToDs δ] {t : TA} {m1 : Res α} {m2 : Res δ} (ha : EvX K W env te m1) (hb : EvA K W env t m2) : EvA K W env (tCons te t) (m1.bind fun x => m2.bind fun y => .ok (x, y)) := fun F0 H0 F H σ Q S k => by
  refine ha F0 H0 F H σ _ S ?_
  cases m1 with
  | ok x =>
    intro v F1 H1 a1 r1
    have k1 : KA K W F H σ Q (m2.bind fun y => .ok (x, y)) := k
    refine hb F0 H0 F1 H1 σ _ (S.step a1) ?_
    cases m2 with
    | ok y =>
      intro vs F2 H2 a2 r2
      exact k1 (v :: vs) F2 H2 (a1.trans a2) ⟨v, vs, rfl, Rep.mono a2.f _ _ r1, r2⟩
    | exc c => exact fun F2 H2 a2 => k1 F2 H2 (a1.trans a2)
    | stuck => exact k1.elim
  | exc c => exact k
  | stuck => exact k.elim
/-- a tuple that is made; its type by f -/
theorem ev_tup {δ : Type} [ToDs δ] {t : TA} {m : Res δ} {f : δ → α} (ha : EvA K W env t m) (hf : ∀ y : δ, toD (f y) = .tup (ToDs.ds y)) (hn : ∀ y : δ, (ToDs.ds y).length ≤ 100000) : EvX K W env (tTup t) (m.bind fun y => .ok (f y)) := fun F0 H0 F H σ Q S k => by
  refine ha F0 H0 F H σ _ S ?_
  cases m with
  | ok y =>
    intro vs F1 H1 a1 r1
    refine ⟨by rw [← r1.length]; exact Evl.sz_of (hn y), fun p hp => ?_⟩
    have a2 : Adv F1 H1 (upd F1 p (.tup vs)) (upd H1 p (.tup vs)) := Adv.new a1.in_ hp
    refine k _ _ _ (a1.trans a2) ?_
    rw [hf]
    exact ⟨p, vs, rfl, .inl (.inl upd_same), Reps.mono a2.f _ _ r1⟩
  | exc c => exact k
  | stuck => exact k.elim
/-- a list that is made -/
theorem en_lst {δ : Type} [ToDs δ] {t : TA} {m : Res δ} {f : δ → List α} (ha : EvA K W env t m) (hf : ∀ y : δ, (f y).map toD = ToDs.ds y) (hn : ∀ y : δ, (ToDs.ds y).length ≤ 100000) : EvN K W env (tLst t) (m.bind fun y => .ok (f y)) := fun F0 H0 F H σ Q S k => by
  refine ha F0 H0 F H σ _ S ?_
  cases m with
  | ok y =>
    intro vs F1 H1 a1 r1
    refine ⟨by rw [← r1.length]; exact Evl.sz_of (hn y), fun p hp => ?_⟩
    refine k p vs _ _ (a1.trans (Adv.newO a1.in_ hp)) (Evl.fresh_back a1.h hp) (none_of_ex a1.in_ hp) upd_same ?_
    rw [hf]
    exact r1
  | exc c => exact k
  | stuck => exact k.elim
/-- a new list as a value that is not changed later -/
theorem ev_ofN {m : Res (List α)} (h : EvN K W env te m) : EvX K W env te m := fun F0 H0 F H σ Q S k => by
  refine h F0 H0 F H σ Q S ?_
  cases m with
  | ok xs =>
    intro p vs F1 H1 a1 hp hf hh r
    have e : Ex F1 (upd F1 p (.lst vs)) := Ex.new hf
    refine k _ (upd F1 p (.lst vs)) H1 ⟨a1.f.trans e, a1.h, fun a u q => ?_, fun q h1 h2 => ?_⟩ ⟨p, vs, rfl, upd_same, Reps.mono e _ _ r⟩
    · by_cases z : a = p
      · subst z; rw [upd_same] at q; cases q; exact hh
      · rw [upd_ne z] at q; exact a1.in_ a u q
    · have z : q ≠ p := fun z => h2 (by rw [z]; exact hp)
      rw [upd_ne z]; exact a1.out q h1 h2
  | exc c => exact k
  | stuck => exact k.elim
/-- a def's promise, by the function that tells what it gives -/
def spM (K : PySem.W.Frag) {δ : Type} [ToDs δ] (f : δ → Res α) : Sp := fun vs H Q E => ∃ F x, Ex F H ∧ Reps K F (ToDs.ds x) vs ∧ KE K (fun cls d _ H => E cls d H) F H [] Q (f x)
theorem ev_call {δ : Type} [ToDs δ] {t : TA} {m : Res δ} {f : δ → Res α} (ha : EvA K W env t m) : EvX K W env (tCallS (spM K f) (WE W) t) (m.bind f) := fun F0 H0 F H σ Q S k => by
  refine ha F0 H0 F H σ _ S ?_
  cases m with
  | ok y =>
    intro vs F1 H1 a1 r1
    refine ⟨F1, y, a1.in_, r1, ?_⟩
    have k : KE K W F H σ Q (f y) := k
    have k := k.adv a1
    revert k
    generalize f y = z
    intro k
    cases z with
    | ok z => exact k
    | exc c => exact k
    | stuck => exact k.elim
  | exc c => exact k
  | stuck => exact k.elim
namespace Res
def noexc {α : Type} : Res α → Res α
  | .exc _ => .stuck
  | m => m
end Res
/-- a call of a def that lets nothing out there -/
theorem ev_call0 {δ : Type} [ToDs δ] {t : TA} {m : Res δ} {f : δ → Res α} (ha : EvA K W env t m) : EvX K W env (tCall (spM K f) [] E0 t) (m.bind fun y => (f y).noexc) := fun F0 H0 F H σ Q S k => by
  refine ha F0 H0 F H σ _ S ?_
  cases m with
  | ok y =>
    intro vs F1 H1 a1 r1
    refine ⟨F1, y, a1.in_, by rw [List.append_nil]; exact r1, ?_⟩
    have k : KE K W F H σ Q (f y).noexc := k
    have k := k.adv a1
    revert k
    generalize f y = z
    intro k
    cases z with
    | ok z => exact k
    | exc c => exact k.elim
    | stuck => exact k.elim
  | exc c => exact k
  | stuck => exact k.elim
/-- built-in defs by their values -/
def CrX (K : PySem.W.Frag) (r : List V → Hp → VK → Prop) {δ : Type} [ToDs δ] (f : δ → Res α) : Prop := ∀ (F H : Hp) (x : δ) (vs : List V) (Q : VK), Ex F H → Reps K F (ToDs.ds x) vs → KE K (fun _ _ _ _ => False) F H [] Q (f x) → r vs H Q
theorem ev_cb {δ : Type} [ToDs δ] {r : List V → Hp → VK → Prop} {t : TA} {m : Res δ} {f : δ → Res α} (ho : CrX K r f) (hm : ∀ x c, f x ≠ .exc c) (ha : EvA K W env t m) : EvX K W env (tCB r t) (m.bind f) := fun F0 H0 F H σ Q S k => by
  refine ha F0 H0 F H σ _ S ?_
  cases m with
  | ok y =>
    intro vs F1 H1 a1 r1
    have k : KE K W F H σ Q (f y) := k
    exact ho F1 H1 y vs Q a1.in_ r1 ((k.adv a1).mild (hm y))
  | exc c => exact k
  | stuck => exact k.elim
end
end Mi
set_option maxHeartbeats 1000000
namespace Mi
open PySem PySem.Spec L2
open Evl (Ex)

/-! ### statements -/
inductive EnLe : En → En → Prop
  | nil : EnLe [] []
  | same {e : Option Sk} {l m : En} : EnLe l m → EnLe (e :: l) (e :: m)
  | drop {e : Option Sk} {l m : En} : EnLe l m → EnLe (e :: l) (none :: m)
theorem EnLe.refl : ∀ l : En, EnLe l l
  | [] => .nil
  | _ :: l => .same (EnLe.refl l)
theorem EnLe.get : ∀ {l m : En}, EnLe l m → ∀ {i : Nat} {sk : Sk}, m[i]? = some (some sk) → l[i]? = some (some sk)
  | _, _, .nil, i, sk, h => h
  | _, _, .same t, 0, sk, h => h
  | _, _, .same t, i + 1, sk, h => EnLe.get t (by simpa using h)
  | _, _, .drop t, 0, sk, h => by simp at h
  | _, _, .drop t, i + 1, sk, h => EnLe.get t (by simpa using h)
theorem EnLe.len {l m : En} (h : EnLe l m) : l.length = m.length := by
  induction h with
  | nil => rfl
  | same _ ih => simp [ih]
  | drop _ ih => simp [ih]
theorem Sl.weak {K : PySem.W.Frag} {F0 H0 F H : Hp} {σ : L2.St} {env env' : En} (S : Sl K F0 H0 F H σ env) (h : EnLe env env') : Sl K F0 H0 F H σ env' :=
  ⟨S.adv, fun i sk e => S.slot i sk (h.get e), fun i j sk sk' p hij e1 e2 => S.dis i j sk sk' p hij (h.get e1) (h.get e2), S.len.trans h.len⟩
def Blk (K : PySem.W.Frag) (F0 H0 : Hp) {τ : Type} (KP : Res τ → Prop) (T : L2.St → Hp → Prop) (env : En) (m : Res τ) : Prop :=
  ∀ F H σ, Sl K F0 H0 F H σ env → KP m → T σ H
structure Lk (K : PySem.W.Frag) (W : WX) (F0 H0 : Hp) (rt : VK) (PT : En → Prop) {τ : Type} [ToD τ] (KP : Res τ → Prop) : Prop where
  ok : ∀ x, KP (.ok x) → ∀ v F H, Adv F0 H0 F H → Rep K F (toD x) v → rt v H
  exc : ∀ c F H σ env, KP (.exc c) → PT env → Sl K F0 H0 F H σ env → W (.ref (He.ga K c)) none σ H
  no : ¬ KP .stuck
section
variable {K : PySem.W.Frag} {W : WX} {F0 H0 F H F' H' F1 : Hp} {rt : VK} {PT : En → Prop} {env env' : En} {α β γ τ : Type} [ToD α] [ToD β] [ToD γ] [ToD τ] {KP : Res τ → Prop} {te ta tb tc : TE} {tt : TT} {Z : Ends} {t u : TS} {T : L2.St → Hp → Prop}
theorem Sl.base {σ : L2.St} (S : Sl K F0 H0 F1 H' σ env) {σ' : L2.St} (S' : Sl K F1 H0 F H σ' env') : Sl K F0 H0 F H σ' env' :=
  ⟨⟨S.adv.f.trans S'.adv.f, S'.adv.h, S'.adv.in_, fun p h1 h2 => S'.adv.out p (S.adv.out p h1 h2) h2⟩, S'.slot, S'.dis, S'.len⟩
theorem Lk.base (L : Lk K W F0 H0 rt PT KP) {σ : L2.St} (S : Sl K F0 H0 F1 H' σ env) : Lk K W F1 H0 rt PT KP :=
  ⟨fun x h v F H a r => L.ok x h v F H ⟨S.adv.f.trans a.f, a.h, a.in_, fun p h1 h2 => a.out p (S.adv.out p h1 h2) h2⟩ r,
   fun c F H σ' env' h p S' => L.exc c F H σ' env' h p (S.base S'), L.no⟩
theorem Blk.base {m : Res τ} (B : Blk K F0 H0 KP T env' m) {σ : L2.St} (S : Sl K F0 H0 F1 H' σ env) : Blk K F1 H0 KP T env' m := fun F H σ' S' h => B F H σ' (S.base S') h
theorem Blk.weak {m : Res τ} (B : Blk K F0 H0 KP T env' m) (h : EnLe env env') : Blk K F0 H0 KP T env m := fun F H σ S k => B F H σ (S.weak h) k

/-- what follows an expression in a block -/
theorem Lk.ke (L : Lk K W F0 H0 rt PT KP) (hT : PT env) {σ : L2.St} (S : Sl K F0 H0 F H σ env) {m : Res α} {f : α → Res τ} (h : KP (m.bind f)) {Q : VK}
    (k : ∀ x v F' H', m = .ok x → Adv F H F' H' → Rep K F' (toD x) v → KP (f x) → Q v H') : KE K W F H σ Q m := by
  cases m with
  | ok x => exact fun v F' H' a r => k x v F' H' rfl a r h
  | exc c => exact fun F' H' a => L.exc c F' H' σ env h hT (S.step a)
  | stuck => exact (L.no h).elim
theorem Lk.kt (L : Lk K W F0 H0 rt PT KP) (hT : PT env) {σ : L2.St} (S : Sl K F0 H0 F H σ env) {m : Res Bool} {f : Bool → Res τ} (h : KP (m.bind f)) {Q : Bool → Hp → Prop}
    (k : ∀ x F' H', m = .ok x → Adv F H F' H' → KP (f x) → Q x H') : KT K W F H σ Q m := by
  cases m with
  | ok x => exact fun F' H' a => k x F' H' rfl a h
  | exc c => exact fun F' H' a => L.exc c F' H' σ env h hT (S.step a)
  | stuck => exact (L.no h).elim
theorem Lk.kn (L : Lk K W F0 H0 rt PT KP) (hT : PT env) {σ : L2.St} (S : Sl K F0 H0 F H σ env) {m : Res (List α)} {f : List α → Res τ} (h : KP (m.bind f)) {Q : VK}
    (k : ∀ xs p vs F' H', m = .ok xs → Adv F H F' H' → H p = none → F' p = none → H' p = some (.lst vs) → Reps K F' (xs.map toD) vs → KP (f xs) → Q (.ref p) H') : KN K W F H σ Q m := by
  cases m with
  | ok x => exact fun p vs F' H' a h1 h2 h3 h4 => k x p vs F' H' rfl a h1 h2 h3 h4 h
  | exc c => exact fun F' H' a => L.exc c F' H' σ env h hT (S.step a)
  | stuck => exact (L.no h).elim

theorem blk_seq {m : Res τ} (h : Blk K F0 H0 KP (t { Z with nx := u Z }) env m) : Blk K F0 H0 KP (tSeq t u Z) env m := h
theorem blk_nil {m : Res τ} (h : Blk K F0 H0 KP Z.nx env m) : Blk K F0 H0 KP (tNext Z) env m := h

theorem Blk.nx {m : Res τ} {T bk ct : L2.St → Hp → Prop} {r : VK} (h : Blk K F0 H0 KP T env m) : Blk K F0 H0 KP (Ends.nx ⟨T, r, bk, ct⟩) env m := h
/-! targets -/
def GX (K : PySem.W.Frag) (g : TG) (x : D) (f : En → En) (ws : List Nat) : Prop := ∀ (F0 H0 F H : Hp) (σ : L2.St) (env : En) (v : V) (T : L2.St → Hp → Prop), Sl K F0 H0 F H σ env → Rep K F x v →
  (∀ σ', Sl K F0 H0 F H σ' (f env) → σ'.length = σ.length → (∀ j, j ∉ ws → σ'[j]? = σ[j]?) → T σ' H) → g v σ H T
def GXs (K : PySem.W.Frag) (g : TGs) (xs : List D) (f : En → En) (ws : List Nat) : Prop := ∀ (F0 H0 F H : Hp) (σ : L2.St) (env : En) (vs : List V) (T : L2.St → Hp → Prop), Sl K F0 H0 F H σ env → Reps K F xs vs →
  (∀ σ', Sl K F0 H0 F H σ' (f env) → σ'.length = σ.length → (∀ j, j ∉ ws → σ'[j]? = σ[j]?) → T σ' H) → g vs σ H T
def stE (i : Nat) (x : D) : En → En := fun env => env.set i (some (.im x))
theorem gx_name {i : Nat} {x : D} : GX K (gName i) x (stE i x) [i] := fun F0 H0 F H σ env v T S r k =>
  k _ (S.setIm r) (by rw [List.length_set]) fun j hj => List.getElem?_set_ne fun e => hj (by rw [e]; exact List.mem_singleton.mpr rfl)
theorem gxs_nil : GXs K gNil [] (fun e => e) [] := fun F0 H0 F H σ env vs T S r k => ⟨r, k σ S rfl fun _ _ => rfl⟩
theorem gxs_cons {g : TG} {gs : TGs} {x : D} {xs : List D} {f1 f2 : En → En} {w1 w2 : List Nat} (h1 : GX K g x f1 w1) (h2 : GXs K gs xs f2 w2) : GXs K (gCons g gs) (x :: xs) (fun e => f2 (f1 e)) (w1 ++ w2) := fun F0 H0 F H σ env vs T S r k => by
  obtain ⟨v, rs, rfl, r1, r2⟩ := r
  refine ⟨v, rs, rfl, h1 F0 H0 F H σ env v _ S r1 fun σ1 S1 l1 o1 => ?_⟩
  refine h2 F0 H0 F H σ1 _ rs T S1 r2 fun σ2 S2 l2 o2 => ?_
  refine k σ2 S2 (l2.trans l1) fun j hj => ?_
  rw [o2 j fun z => hj (List.mem_append_right _ z), o1 j fun z => hj (List.mem_append_left _ z)]
theorem gx_tup {gs : TGs} {n : Nat} {xs : List D} {f : En → En} {ws : List Nat} (h : GXs K gs xs f ws) (hn : xs.length = n) : GX K (gTup K n gs) (.tup xs) f ws := fun F0 H0 F H σ env v T S r k => by
  obtain ⟨a, vs, rfl, h1, h2⟩ := r
  exact ⟨a, vs, rfl, Evl.ex_t S.ex h1, by rw [← h2.length]; exact hn, h F0 H0 F H σ env vs T S h2 k⟩

theorem blk_asg {g : TG} {m : Res α} {f : α → Res τ} {fe : α → En → En} {ws : List Nat} (L : Lk K W F0 H0 rt PT KP) (hT : PT env) (he : EvX K W env te m) (hg : ∀ x, GX K g (toD x) (fe x) ws)
    (k : ∀ x, Blk K F0 H0 KP Z.nx (fe x env) (f x)) : Blk K F0 H0 KP (tAsg te g Z) env (m.bind f) := fun F H σ S h =>
  he F0 H0 F H σ _ S (L.ke hT S h fun x v F1 H1 e1 a1 r1 h1 => hg x F0 H0 F1 H1 σ env v _ (S.step a1) r1 fun σ' S' _ _ => k x F1 H1 σ' S' h1)
theorem blk_set {i : Nat} {m : Res α} {f : α → Res τ} (L : Lk K W F0 H0 rt PT KP) (hT : PT env) (he : EvX K W env te m)
    (k : ∀ x, Blk K F0 H0 KP Z.nx (env.set i (some (.im (toD x)))) (f x)) : Blk K F0 H0 KP (tAsg te (gName i) Z) env (m.bind f) :=
  blk_asg L hT he (fun _ => gx_name) k
/-- x = a new list that is changed later -/
theorem blk_own {i : Nat} {m : Res (List α)} {f : List α → Res τ} (L : Lk K W F0 H0 rt PT KP) (hT : PT env) (he : EvN K W env te m)
    (k : ∀ xs, Blk K F0 H0 KP Z.nx (env.set i (some (.ow (xs.map toD)))) (f xs)) : Blk K F0 H0 KP (tAsg te (gName i) Z) env (m.bind f) := fun F H σ S h =>
  he F0 H0 F H σ _ S (L.kn hT S h fun xs p vs F1 H1 e1 a1 hp hf hh r h1 => by
    have S1 := S.step a1
    refine k xs F1 H1 _ (S1.setOw (Evl.fresh_back S.adv.h hp) hf hh (fun j sk' e ho z => ?_) r) h1
    obtain ⟨v, e2, q⟩ := S.slot j _ e
    obtain ⟨p', o', rfl, _, _, q4⟩ := q.at ho
    rw [e2] at z
    cases z
    rw [hp] at q4; cases q4)
/-- x.append(e), x an owned list -/
theorem blk_app {i : Nat} {xs : List β} {m : Res β} {f : β → Res τ} (L : Lk K W F0 H0 rt PT KP) (hT : PT env) (hx : env[i]? = some (some (.ow (xs.map toD)))) (he : EvX K W env te m)
    (k : ∀ y, Blk K F0 H0 KP Z.nx (env.set i (some (.ow ((xs ++ [y]).map toD)))) (f y)) :
    Blk K F0 H0 KP (tDrop (tBM K "list" rAppend (tVar i) (tCons te tNil)) Z) env (m.bind fun y => .need (xs.length < 16777216) (f y)) := fun F H σ S h => by
  obtain ⟨v, e, p, vs, rfl, h0, hf, hp, hr⟩ := S.slot i _ hx
  refine ⟨_, e, .inl ⟨rfl, _, .inl (.inl hp)⟩, ?_⟩
  refine he F0 H0 F H σ _ S (L.ke hT S h fun y u F1 H1 e1 a1 r1 h1 => ?_)
  by_cases c : xs.length < 16777216
  · rw [Res.need_pos c] at h1
    have hr' := Reps.mono a1.f _ _ hr
    refine ⟨p, vs, u, rfl, rfl, a1.h _ _ hp, by rw [sizeLine_eq, ← hr.length, List.length_map]; exact c, ?_⟩
    refine k y F1 _ σ ((S.step a1).chg hx e (a1.out p hf (by rw [hp]; simp)) h0 ?_) h1
    rw [List.map_append]
    exact Reps.append hr' (Reps.one r1)
  · rw [Res.need_neg c] at h1
    exact (L.no h1).elim
/-- x[i] = e, x an owned list -/
theorem blk_setI {i : Nat} {xs : List β} {m : Res β} {mi : Res Int} {f : List β → Res τ} (L : Lk K W F0 H0 rt PT KP) (hT : PT env) (hx : env[i]? = some (some (.ow (xs.map toD)))) (he : EvX K W env te m) (hi : EvX K W env tb mi)
    (k : ∀ ys, Blk K F0 H0 KP Z.nx (env.set i (some (.ow (ys.map toD)))) (f ys)) :
    Blk K F0 H0 KP (tAsg te (gSub (tVar i) tb rSetL) Z) env (m.bind fun y => mi.bind fun j => match ixN xs.length j with | some a => f (xs.set a y) | none => .stuck) := fun F H σ S h => by
  obtain ⟨v, e, p, vs, rfl, h0, hf, hp, hr⟩ := S.slot i _ hx
  refine he F0 H0 F H σ _ S (L.ke hT S h fun y u F1 H1 e1 a1 r1 h1 => ?_)
  refine ⟨_, e, ?_⟩
  refine hi F0 H0 F1 H1 σ _ (S.step a1) (L.ke hT (S.step a1) h1 fun j w F2 H2 e2 a2 r2 h2 => ?_)
  cases (show w = V.int j from r2)
  have hr' := Reps.mono (a1.trans a2).f _ _ hr
  have ha := (a1.trans a2)
  have hl : vs.length = xs.length := by rw [← hr.length, List.length_map]
  cases q : ixN xs.length j with
  | none => rw [q] at h2; exact (L.no h2).elim
  | some a =>
    rw [q] at h2
    refine ⟨p, vs, j, a, rfl, rfl, ha.h _ _ hp, by rw [hl]; exact q, ?_⟩
    refine k (xs.set a y) F2 _ σ ((S.step ha).chg hx e (ha.out p hf (by rw [hp]; simp)) h0 ?_) h2
    rw [List.map_set]
    exact Reps.set a hr' (Rep.mono a2.f _ _ r1)
theorem blk_freeze {xs : List D} (i : Nat) {m : Res τ} (hx : env[i]? = some (some (.ow xs))) (k : Blk K F0 H0 KP T (env.set i (some (.im (.lst xs)))) m) : Blk K F0 H0 KP T env m := fun F H σ S h => by
  obtain ⟨F', _, S'⟩ := S.freeze hx
  exact k F' H σ S' h
theorem blk_if {m : Res Bool} {f : Bool → Res τ} (L : Lk K W F0 H0 rt PT KP) (hT : PT env) (hc : EvT K W env tt m) (h1 : Blk K F0 H0 KP (t Z) env (f true)) (h2 : Blk K F0 H0 KP (u Z) env (f false)) :
    Blk K F0 H0 KP (tIfS tt t u Z) env (m.bind f) := fun F H σ S h =>
  hc F0 H0 F H σ _ S (L.kt hT S h fun b F1 H1 e1 a1 k1 => by
    cases b with
    | true => exact h1 F1 H1 σ (S.step a1) k1
    | false => exact h2 F1 H1 σ (S.step a1) k1)
theorem blk_ret {m : Res τ} (L : Lk K W F0 H0 rt PT KP) (hT : PT env) (he : EvX K W env te m) (hZ : Z.rt = rt := by rfl) : Blk K F0 H0 KP (tRet te Z) env m := fun F H σ S h => by
  subst hZ
  rw [← Res.bind_pure m] at h
  exact he F0 H0 F H σ _ S (L.ke hT S h fun x v F1 H1 e1 a1 r1 h1 => L.ok x h1 v F1 H1 (S.adv.trans a1) r1)
/-- a value of another type is handed back -/
theorem blk_retAs {m : Res α} {f : α → τ} (L : Lk K W F0 H0 rt PT KP) (hT : PT env) (he : EvX K W env te m) (hf : ∀ x, toD (f x) = toD x) (hZ : Z.rt = rt := by rfl) : Blk K F0 H0 KP (tRet te Z) env (m.bind fun x => .ok (f x)) := fun F H σ S h => by
  subst hZ
  exact he F0 H0 F H σ _ S (L.ke hT S h fun x v F1 H1 e1 a1 r1 h1 => L.ok (f x) h1 v F1 H1 (S.adv.trans a1) (by rw [hf]; exact r1))
theorem blk_retN {x : τ} (L : Lk K W F0 H0 rt PT KP) (hx : toD x = .non) (hZ : Z.rt = rt := by rfl) : Blk K F0 H0 KP (tRetN Z) env (.ok x) := fun F H σ S h => by
  subst hZ
  exact L.ok x h .non F H S.adv (by rw [hx]; rfl)
theorem blk_expr {m : Res α} {f : α → Res τ} (L : Lk K W F0 H0 rt PT KP) (hT : PT env) (he : EvX K W env te m) (k : ∀ x, Blk K F0 H0 KP Z.nx env (f x)) : Blk K F0 H0 KP (tDrop te Z) env (m.bind f) := fun F H σ S h =>
  he F0 H0 F H σ _ S (L.ke hT S h fun x v F1 H1 e1 a1 r1 h1 => k x F1 H1 σ (S.step a1) h1)
/-- raise X('..') -/
theorem blk_raise {c : Str} (L : Lk K W F0 H0 rt PT KP) (hT : PT env) : Blk K F0 H0 KP (fun σ H => W (.ref (He.ga K c)) none σ H) env (.exc c) := fun F H σ S h => L.exc c F H σ env h hT S
theorem blk_raise1 {c : Str} {m : Res α} (L : Lk K W F0 H0 rt PT KP) (hT : PT env) (he : EvX K W env te m) : Blk K F0 H0 KP (fun σ H => te σ H fun _ H1 => W (.ref (He.ga K c)) none σ H1) env (m.bind fun _ => .exc c) := fun F H σ S h =>
  he F0 H0 F H σ _ S (L.ke hT S h fun x v F1 H1 e1 a1 r1 h1 => L.exc c F1 H1 σ env h1 hT (S.step a1))
/-- a, b = e1, e2 -/
theorem blk_par {i j : Nat} {m1 : Res α} {m2 : Res β} {f : α → β → Res τ} (L : Lk K W F0 H0 rt PT KP) (hT : PT env) (h1 : EvX K W env ta m1) (h2 : EvX K W env tb m2)
    (k : ∀ x y, Blk K F0 H0 KP Z.nx ((env.set i (some (.im (toD x)))).set j (some (.im (toD y)))) (f x y)) : Blk K F0 H0 KP (tPar i j (tCons ta (tCons tb tNil)) Z) env (m1.bind fun x => m2.bind fun y => f x y) := fun F H σ S h => by
  refine h1 F0 H0 F H σ _ S (L.ke hT S h fun x v F1 H1 e1 a1 r1 k1 => ?_)
  refine h2 F0 H0 F1 H1 σ _ (S.step a1) (L.ke hT (S.step a1) k1 fun y w F2 H2 e2 a2 r2 k2 => ?_)
  refine ⟨v, w, rfl, ?_⟩
  exact k x y F2 H2 _ ((((S.step a1).step a2).setIm (Rep.mono a2.f _ _ r1)).setIm r2) k2
/-- x op= e -/
theorem blk_aug {i : Nat} {x : Int} {m : Res Int} {f : Int → Res τ} {g : Int → Int → Int} (L : Lk K W F0 H0 rt PT KP) (hT : PT env) (hx : env[i]? = some (some (.im (.int x)))) (he : EvX K W env te m)
    (k : ∀ y, Blk K F0 H0 KP Z.nx (env.set i (some (.im (.int (g x y))))) (f y)) : Blk K F0 H0 KP (tAug i te (ipI g) Z) env (m.bind f) := fun F H σ S h => by
  obtain ⟨v, e, q⟩ := S.slot i _ hx
  cases (show v = V.int x from q)
  refine ⟨_, e, he F0 H0 F H σ _ S (L.ke hT S h fun y w F1 H1 e1 a1 r1 k1 => ?_)⟩
  exact ⟨x, y, rfl, r1, k y F1 H1 _ ((S.step a1).setIm rfl) k1⟩
theorem blk_augR {i : Nat} {x : α} {m : Res β} {f : γ → Res τ} {r : R2} {g : α → β → Res γ} (L : Lk K W F0 H0 rt PT KP) (hT : PT env) (hx : env[i]? = some (some (.im (toD x)))) (ho : OpX K r g) (hm : Mild g) (he : EvX K W env te m)
    (k : ∀ z, Blk K F0 H0 KP Z.nx (env.set i (some (.im (toD z)))) (f z)) : Blk K F0 H0 KP (tAug i te r Z) env (m.bind fun y => (g x y).bind f) := fun F H σ S h => by
  obtain ⟨v, e, q⟩ := S.slot i _ hx
  refine ⟨_, e, he F0 H0 F H σ _ S (L.ke hT S h fun y w F1 H1 e1 a1 r1 k1 => ?_)⟩
  refine ho F1 H1 x y v w _ a1.in_ (Rep.mono a1.f _ _ q) r1 ?_
  refine KE.mild (W := W) (σ := σ) (hm x y) ?_
  exact L.ke hT (S.step a1) k1 fun z u F2 H2 e2 a2 r2 k2 => k z F2 H2 _ (((S.step a1).step a2).setIm r2) k2

/-! ### loops -/
structure JS (K : PySem.W.Frag) (F : Hp) (J : It) (xs : List D) : Prop where
  go : ∀ i H, Ex F H → i < xs.length → J.go i H
  stop : ∀ i H, Ex F H → xs.length ≤ i → J.stop i H
  yld : ∀ i H v H' F1, Ex F F1 → Ex F1 H → i < xs.length → J.yld i H v H' → ∃ F2 x, Adv F1 H F2 H' ∧ xs[i]? = some x ∧ Rep K F2 x v
def KI (K : PySem.W.Frag) (W : WX) (F H : Hp) (σ : L2.St) {α : Type} [ToD α] (R : It → Hp → Prop) : Res (List α) → Prop
  | .ok xs => ∀ J F' H', Adv F H F' H' → JS K F' J (xs.map toD) → R J H'
  | .exc c => ∀ F' H', Adv F H F' H' → W (.ref (He.ga K c)) none σ H'
  | .stuck => False
def EvI (K : PySem.W.Frag) (W : WX) (env : En) (wi : TI) {α : Type} [ToD α] (m : Res (List α)) : Prop :=
  ∀ F0 H0 F H σ R, Sl K F0 H0 F H σ env → KI K W F H σ R m → wi σ H R
theorem Lk.ki (L : Lk K W F0 H0 rt PT KP) (hT : PT env) {σ : L2.St} (S : Sl K F0 H0 F H σ env) {m : Res (List α)} {f : List α → Res τ} (h : KP (m.bind f)) {R : It → Hp → Prop}
    (k : ∀ xs J F' H', m = .ok xs → Adv F H F' H' → JS K F' J (xs.map toD) → KP (f xs) → R J H') : KI K W F H σ R m := by
  cases m with
  | ok x => exact fun J F' H' a h1 => k x J F' H' rfl a h1 h
  | exc c => exact fun F' H' a => L.exc c F' H' σ env h hT (S.step a)
  | stuck => exact (L.no h).elim
theorem js_list {a : Addr} {vs : List V} {xs : List D} (hl : SqL K F a vs) (hr : Reps K F xs vs) : JS K F (Itl K a) xs := by
  have hn := hr.length
  refine ⟨fun i H e hi => ?_, fun i H e hi => ?_, fun i H v H' F1 e1 e2 hi hy => ?_⟩
  · exact ⟨vs, vs[i]'(by omega), Evl.ex_l e hl, List.getElem?_eq_getElem (by omega)⟩
  · exact ⟨vs, Evl.ex_l e hl, by omega⟩
  · obtain ⟨e, f⟩ := hy
    subst e
    have g := f vs (Evl.ex_l (e1.trans e2) hl)
    obtain ⟨w, q1, q2⟩ := hr.get (i := i) (e := xs[i]) (List.getElem?_eq_getElem hi)
    rw [g] at q1; cases q1
    exact ⟨F1, xs[i], Adv.refl e2, List.getElem?_eq_getElem hi, Rep.mono e1 _ _ q2⟩
theorem js_tup {a : Addr} {vs : List V} {xs : List D} (hl : SqT K F a vs) (hr : Reps K F xs vs) : JS K F (Itt K a) xs := by
  have hn := hr.length
  refine ⟨fun i H e hi => ?_, fun i H e hi => ?_, fun i H v H' F1 e1 e2 hi hy => ?_⟩
  · exact ⟨vs, vs[i]'(by omega), Evl.ex_t e hl, List.getElem?_eq_getElem (by omega)⟩
  · exact ⟨vs, Evl.ex_t e hl, by omega⟩
  · obtain ⟨e, f⟩ := hy
    subst e
    have g := f vs (Evl.ex_t (e1.trans e2) hl)
    obtain ⟨w, q1, q2⟩ := hr.get (i := i) (e := xs[i]) (List.getElem?_eq_getElem hi)
    rw [g] at q1; cases q1
    exact ⟨F1, xs[i], Adv.refl e2, List.getElem?_eq_getElem hi, Rep.mono e1 _ _ q2⟩
theorem ei_list {m : Res (List α)} (h : EvX K W env te m) : EvI K W env (iList K te) m := fun F0 H0 F H σ R S k => by
  refine h F0 H0 F H σ _ S ?_
  cases m with
  | ok xs =>
    intro v F1 H1 a r
    obtain ⟨p, vs, rfl, h1, h2⟩ := r
    exact ⟨p, rfl, ⟨vs, sq_ex a.in_ h1⟩, k _ F1 H1 a (js_list (Evl.sq_of h1) h2)⟩
  | exc c => exact k
  | stuck => exact k.elim
theorem ei_tup {m : Res (Tu α)} (h : EvX K W env te m) : EvI K W env (iTup K te) (m.bind fun x => .ok x.xs) := fun F0 H0 F H σ R S k => by
  refine h F0 H0 F H σ _ S ?_
  cases m with
  | ok xs =>
    intro v F1 H1 a r
    obtain ⟨p, vs, rfl, h1, h2⟩ := r
    exact ⟨p, rfl, ⟨vs, Evl.ex_t a.in_ h1⟩, k _ F1 H1 a (js_tup h1 h2)⟩
  | exc c => exact k
  | stuck => exact k.elim
def pyRange (lo hi : Int) : List Int := (List.range (hi - lo).toNat).map fun (i : Nat) => lo + (i : Int)
theorem pyRange_len (lo hi : Int) : (pyRange lo hi).length = (hi - lo).toNat := by simp [pyRange]
theorem pyRange_get {lo hi : Int} {i : Nat} (h : i < (hi - lo).toNat) : (pyRange lo hi)[i]? = some (lo + (i : Int)) := by
  simp [pyRange, h]
theorem js_range {lo hi : Int} : JS K F (Itr lo (hi - lo).toNat) ((pyRange lo hi).map toD) := by
  refine ⟨fun i H e h => ?_, fun i H e h => ?_, fun i H v H' F1 e1 e2 h hy => ?_⟩
  · rw [List.length_map, pyRange_len] at h; exact h
  · rw [List.length_map, pyRange_len] at h; exact h
  · rw [List.length_map, pyRange_len] at h
    obtain ⟨e, q⟩ := hy
    subst e q
    exact ⟨F1, .int (lo + (i : Int)), Adv.refl e2, by rw [List.getElem?_map, pyRange_get h]; rfl, rfl⟩
abbrev okRange (i : Int) : Prop := -(2 ^ 62) ≤ i ∧ i < 2 ^ 62
theorem ei_range1 {m : Res Int} (h : EvX K W env te m) : EvI K W env (iRng1 (tCons te tNil)) (m.bind fun j => .need (okRange j) (.ok (pyRange 0 j))) := fun F0 H0 F H σ R S k => by
  refine h F0 H0 F H σ _ S ?_
  cases m with
  | ok j =>
    intro v F1 H1 a r
    cases (show v = V.int j from r)
    have k : KI K W F H σ R (.need (okRange j) (.ok (pyRange 0 j))) := k
    by_cases c : okRange j
    · rw [Res.need_pos c] at k
      refine ⟨j, rfl, c.1, c.2, k _ F1 H1 a ?_⟩
      have := js_range (K := K) (F := F1) (lo := 0) (hi := j)
      rw [Int.sub_zero] at this
      exact this
    · rw [Res.need_neg c] at k; exact k.elim
  | exc c => exact k
  | stuck => exact k.elim
theorem ei_range2 {m1 m2 : Res Int} (h1 : EvX K W env ta m1) (h2 : EvX K W env tb m2) : EvI K W env (iRng2 (tCons ta (tCons tb tNil))) (m1.bind fun i => m2.bind fun j => .need (okRange i ∧ okRange j) (.ok (pyRange i j))) := fun F0 H0 F H σ R S k => by
  refine h1 F0 H0 F H σ _ S ?_
  cases m1 with
  | ok i =>
    intro v F1 H1 a r
    cases (show v = V.int i from r)
    refine h2 F0 H0 F1 H1 σ _ (S.step a) ?_
    have k : KI K W F H σ R (m2.bind fun j => .need (okRange i ∧ okRange j) (.ok (pyRange i j))) := k
    cases m2 with
    | ok j =>
      intro v F2 H2 a2 r
      cases (show v = V.int j from r)
      have k : KI K W F H σ R (.need (okRange i ∧ okRange j) (.ok (pyRange i j))) := k
      by_cases c : okRange i ∧ okRange j
      · rw [Res.need_pos c] at k
        exact ⟨i, j, rfl, ⟨c.1.1, c.1.2, c.2.1, c.2.2⟩, k _ F2 H2 (a.trans a2) js_range⟩
      · rw [Res.need_neg c] at k; exact k.elim
    | exc c => exact fun F2 H2 a2 => k F2 H2 (a.trans a2)
    | stuck => exact k.elim
  | exc c => exact k
  | stuck => exact k.elim
/-- range(i, j, -1) -/
def pyDown (i j : Int) : List Int := (List.range (i - j).toNat).map fun (a : Nat) => i - (a : Int)
theorem pyDown_len (lo hi : Int) : (pyDown lo hi).length = (lo - hi).toNat := by simp [pyDown]
theorem pyDown_get {lo hi : Int} {i : Nat} (h : i < (lo - hi).toNat) : (pyDown lo hi)[i]? = some (lo - (i : Int)) := by
  simp [pyDown, h]
theorem js_down {lo hi : Int} : JS K F (Itc lo (-1) (lo - hi).toNat) ((pyDown lo hi).map toD) := by
  refine ⟨fun i H e h => ?_, fun i H e h => ?_, fun i H v H' F1 e1 e2 h hy => ?_⟩
  · rw [List.length_map, pyDown_len] at h; exact h
  · rw [List.length_map, pyDown_len] at h; exact h
  · rw [List.length_map, pyDown_len] at h
    obtain ⟨e, q⟩ := hy
    subst e q
    refine ⟨F1, .int (lo - (i : Int)), Adv.refl e2, by rw [List.getElem?_map, pyDown_get h]; rfl, ?_⟩
    show V.int _ = V.int _
    congr 1; omega
theorem ei_down {m1 m2 : Res Int} (h1 : EvX K W env ta m1) (h2 : EvX K W env tb m2) (h3 : EvX K W env tc (.ok (-1 : Int))) : EvI K W env (iRng3 (tCons ta (tCons tb (tCons tc tNil)))) (m1.bind fun i => m2.bind fun j => .need (okRange i ∧ okRange j) (.ok (pyDown i j))) := fun F0 H0 F H σ R S k => by
  refine h1 F0 H0 F H σ _ S ?_
  cases m1 with
  | ok i =>
    intro v F1 H1 a r
    cases (show v = V.int i from r)
    refine h2 F0 H0 F1 H1 σ _ (S.step a) ?_
    have k : KI K W F H σ R (m2.bind fun j => .need (okRange i ∧ okRange j) (.ok (pyDown i j))) := k
    cases m2 with
    | ok j =>
      intro v F2 H2 a2 r
      cases (show v = V.int j from r)
      refine h3 F0 H0 F2 H2 σ _ ((S.step a).step a2) fun v F3 H3 a3 r => ?_
      cases (show v = V.int (-1) from r)
      have k : KI K W F H σ R (.need (okRange i ∧ okRange j) (.ok (pyDown i j))) := k
      by_cases c : okRange i ∧ okRange j
      · rw [Res.need_pos c] at k
        exact ⟨i, j, -1, (i - j).toNat, rfl, RgC.neg c.1.1 c.1.2 c.2.1 c.2.2, k _ F3 H3 ((a.trans a2).trans a3) js_down⟩
      · rw [Res.need_neg c] at k; exact k.elim
    | exc c => exact fun F2 H2 a2 => k F2 H2 (a.trans a2)
    | stuck => exact k.elim
  | exc c => exact k
  | stuck => exact k.elim

theorem blk_for {S : Type} {wi : TI} {g : TG} {tb : TS} {m : Res (List α)} {fe : α → En → En} {ws : List Nat} (loop : List α → S → Res τ) (k : S → Res τ) (envS : S → En) (s0 : S)
    (L : Lk K W F0 H0 rt PT KP) (hT : PT env) (hi : EvI K W env wi m) (hg : ∀ x, GX K g (toD x) (fe x) ws) (h0 : EnLe env (envS s0)) (hnil : ∀ s, loop [] s = k s)
    (hbody : ∀ F1, Lk K W F1 H0 rt PT KP → (∀ s, Blk K F1 H0 KP Z.nx (envS s) (k s)) → ∀ x r s (N : L2.St → Hp → Prop), (∀ s', Blk K F1 H0 KP N (envS s') (loop r s')) →
      Blk K F1 H0 KP (tb { Z with nx := N, ct := N, bk := Z.nx }) (fe x (envS s)) (loop (x :: r) s))
    (hrest : ∀ s, Blk K F0 H0 KP Z.nx (envS s) (k s)) : Blk K F0 H0 KP (tFor wi g tb Z) env (m.bind fun xs => loop xs s0) := fun F H σ S h => by
  refine hi F0 H0 F H σ _ S (L.ki hT S h fun xs J F1 H1 e1 a1 js h1 => ?_)
  have S1 := (S.step a1).weak h0
  have S11 : Sl K F1 H0 F1 H1 σ (envS s0) := ⟨⟨Ex.refl _, S1.adv.h, S1.adv.in_, fun p q _ => q⟩, S1.slot, S1.dis, S1.len⟩
  have hB := hbody F1 (L.base S1) (fun s => (hrest s).base S1)
  have hn : (xs.map toD).length = xs.length := List.length_map ..
  refine ⟨fun i m σ H => m = xs.length - i ∧ i ≤ xs.length ∧ ∃ F s, Sl K F1 H0 F H σ (envS s) ∧ KP (loop (xs.drop i) s), ⟨xs.length, rfl, Nat.zero_le _, F1, s0, S11, h1⟩, ?_⟩
  rintro i m σ H ⟨rfl, hle, F, s, S, h⟩
  by_cases hlt : i < xs.length
  · refine .inr ⟨js.go i H (S.adv.f.trans S.ex) (by rw [hn]; exact hlt), fun σ' H' => ∃ F s, Sl K F1 H0 F H' σ' (envS s) ∧ KP (loop (xs.drop (i + 1)) s), fun σ' H' w => ⟨_, by omega, rfl, hlt, w⟩, fun v H' hy => ?_⟩
    obtain ⟨F2, x, a2, ex, rx⟩ := js.yld i H v H' F S.adv.f S.ex (by rw [hn]; exact hlt) hy
    rw [List.getElem?_map, List.getElem?_eq_getElem hlt] at ex
    cases ex
    refine hg xs[i] F1 H0 F2 H' σ (envS s) v _ (S.step a2) rx fun σ' S' _ _ => ?_
    have e : xs.drop i = xs[i] :: xs.drop (i + 1) := List.drop_eq_getElem_cons hlt
    rw [e] at h
    exact hB xs[i] (xs.drop (i + 1)) s _ (fun s' F H σ S h => ⟨F, s', S, h⟩) F2 H' σ' S' h
  · have e : xs.drop i = [] := List.drop_of_length_le (by omega)
    rw [e, hnil] at h
    exact .inl ⟨js.stop i H (S.adv.f.trans S.ex) (by rw [hn]; omega), (hrest s).base S1 F H σ S h⟩
theorem blk_while {S : Type} {tb : TS} (loop : Nat → S → Res τ) (test : S → Res Bool) (body : Nat → S → Res τ) (k : S → Res τ) (envS : S → En) (s0 : S) (fuel : Nat)
    (L : Lk K W F0 H0 rt PT KP) (hT : ∀ s, PT (envS s)) (h0 : EnLe env (envS s0)) (hc : ∀ s, EvT K W (envS s) tt (test s)) (l0 : ∀ s, loop 0 s = .stuck) (l1 : ∀ n s, loop (n + 1) s = (test s).bind fun b => cond b (body n s) (k s))
    (hbody : ∀ n s (N : L2.St → Hp → Prop), (∀ s', Blk K F0 H0 KP N (envS s') (loop n s')) → Blk K F0 H0 KP (tb { Z with nx := N, ct := N, bk := Z.nx }) (envS s) (body n s))
    (hrest : ∀ s, Blk K F0 H0 KP Z.nx (envS s) (k s)) : Blk K F0 H0 KP (tWhile tt tb Z) env (loop fuel s0) := fun F H σ S h => by
  refine ⟨fun n σ H => ∃ F s, Sl K F0 H0 F H σ (envS s) ∧ KP (loop n s), ⟨fuel, F, s0, S.weak h0, h⟩, ?_⟩
  rintro n σ H ⟨F, s, S, h⟩
  cases n with
  | zero => rw [l0] at h; exact (L.no h).elim
  | succ n =>
    rw [l1] at h
    refine hc s F0 H0 F H σ _ S (L.kt (hT s) S h fun b F1 H1 e1 a1 h1 => ?_)
    cases b with
    | true =>
      show ∃ N, _
      exact ⟨fun σ' H' => ∃ F s, Sl K F0 H0 F H' σ' (envS s) ∧ KP (loop n s), fun σ' H' w => ⟨n, Nat.lt_succ_self n, w⟩, hbody n s _ (fun s' F H σ S h => ⟨F, s', S, h⟩) F1 H1 σ (S.step a1) h1⟩
    | false => exact hrest s F1 H1 σ (S.step a1) h1

/-! ### comprehensions -/
def compL {α β : Type} (t : α → Res Bool) (e : α → Res β) : List α → Res (List β)
  | [] => .ok []
  | x :: r => (t x).bind fun b => cond b ((e x).bind fun y => (compL t e r).bind fun ys => .ok (y :: ys)) (compL t e r)
def mapL {α β : Type} (e : α → Res β) : List α → Res (List β)
  | [] => .ok []
  | x :: r => (e x).bind fun y => (mapL e r).bind fun ys => .ok (y :: ys)
theorem compL_yes {α β : Type} (e : α → Res β) : ∀ xs : List α, compL (fun _ => .ok true) e xs = mapL e xs
  | [] => rfl
  | x :: r => by
    show (e x).bind _ = (e x).bind _
    rw [compL_yes e r]
end
end Mi
set_option maxHeartbeats 1000000
namespace Mi
open PySem PySem.Spec L2
open Evl (Ex)
section
variable {K : PySem.W.Frag} {W : WX} {F0 H0 F H F' H' F1 : Hp} {rt : VK} {PT : En → Prop} {env env' : En} {α β γ τ : Type} [ToD α] [ToD β] [ToD γ] [ToD τ] {KP : Res τ → Prop} {te ta tb tc : TE} {tt : TT} {Z : Ends} {t u : TS} {T : L2.St → Hp → Prop} {σ : L2.St}

/-! ### comprehensions -/
theorem Sl.updN (S : Sl K F0 H0 F H σ env) {p : Addr} {o : HO} (hp : F p = none) (h0 : H0 p = none) (hn : ∀ (i : Nat) (sk : Sk), env[i]? = some (some sk) → sk.own = true → σ[i]? ≠ some (some (V.ref p))) : Sl K F0 H0 F (upd H p o) σ env := by
  refine ⟨⟨S.adv.f, fun a u q => ?_, fun a u q => ?_, S.adv.out⟩, fun j sk q => ?_, S.dis, S.len⟩
  · rw [upd_ne (ne_of_none q h0)]; exact S.adv.h a u q
  · rw [upd_ne (ne_of_none q hp)]; exact S.adv.in_ a u q
  · obtain ⟨w, h1, h2⟩ := S.slot j sk q
    exact ⟨w, h1, h2.updH fun o2 zz => hn j sk q o2 (by rw [h1, zz])⟩
/-- the names of a comprehension are forgotten -/
def unset : List Nat → En → En
  | [], e => e
  | i :: is, e => (unset is e).set i none
theorem unset_len (e : En) : ∀ ws : List Nat, (unset ws e).length = e.length
  | [] => rfl
  | i :: is => by show ((unset is e).set i none).length = _; rw [List.length_set, unset_len e is]
theorem unset_get {e : En} {j : Nat} {sk : Sk} : ∀ {ws : List Nat}, (unset ws e)[j]? = some (some sk) → e[j]? = some (some sk) ∧ j ∉ ws
  | [], h => ⟨h, by simp⟩
  | i :: is, h => by
    have h : ((unset is e).set i none)[j]? = some (some sk) := h
    rcases set_get h with ⟨_, z⟩ | ⟨z, h⟩
    · cases z
    · obtain ⟨h1, h2⟩ := unset_get h
      exact ⟨h1, by simp only [List.mem_cons, not_or]; exact ⟨fun e => z e.symm, h2⟩⟩
theorem Sl.wipe (S : Sl K F0 H0 F H σ env) (ws : List Nat) : Sl K F0 H0 F H (L2.wipe σ ws) (unset ws env) := by
  refine ⟨S.adv, fun i sk e => ?_, fun i j xs ys p hij e1 e2 o1 o2 h1 => ?_, by rw [wipe_length, unset_len]; exact S.len⟩
  · obtain ⟨e, hn⟩ := unset_get e
    rw [wipe_out hn]; exact S.slot i sk e
  · obtain ⟨e1, n1⟩ := unset_get e1
    obtain ⟨e2, n2⟩ := unset_get e2
    rw [wipe_out n1] at h1
    rw [wipe_out n2]
    exact S.dis i j xs ys p hij e1 e2 o1 o2 h1
theorem wipe_in {j : Nat} : ∀ {ws : List Nat}, j ∈ ws → j < σ.length → (L2.wipe σ ws)[j]? = some none
  | [], h, _ => by cases h
  | i :: is, h, hl => by
    show ((L2.wipe σ is).set i none)[j]? = some none
    by_cases e : i = j
    · subst e
      rw [List.getElem?_set_self (by rw [wipe_length]; exact hl)]
    · rw [List.getElem?_set_ne e]
      rcases List.mem_cons.mp h with z | z
      · exact absurd z.symm e
      · exact wipe_in z hl
theorem wipe_eq {σ' : L2.St} {ws : List Nat} (hl : σ'.length = (L2.wipe σ ws).length) (ho : ∀ j, j ∉ ws → σ'[j]? = (L2.wipe σ ws)[j]?) : L2.wipe σ' ws = L2.wipe σ ws := by
  rw [wipe_length] at hl
  apply List.ext_getElem?
  intro j
  by_cases hj : j ∈ ws
  · by_cases hlt : j < σ.length
    · rw [wipe_in hj hlt, wipe_in hj (by rw [hl]; exact hlt)]
    · rw [List.getElem?_eq_none (by rw [wipe_length]; omega), List.getElem?_eq_none (by rw [wipe_length]; omega)]
  · rw [wipe_out hj, ho j hj]
abbrev WT : WX := fun _ _ _ _ => True
theorem ev_comp {wi : TI} {g : TG} {m : Res (List α)} {fe : α → En → En} {ws : List Nat} {tst : α → Res Bool} {el : α → Res β} (hi : EvI K W env wi m) (hg : ∀ x, GX K g (toD x) (fe x) ws)
    (ht : ∀ x, EvT K WT (fe x (unset ws env)) tt (tst x)) (he : ∀ x, EvX K WT (fe x (unset ws env)) te (el x)) :
    EvN K W env (tLc wi g tt te ws) (m.bind fun xs => .need (xs.length ≤ 16777216) (compL tst el xs)) := fun F0 H0 F H σ Q S k => by
  refine hi F0 H0 F H σ _ S ?_
  cases m with
  | exc c => exact k
  | stuck => exact k.elim
  | ok xs =>
  intro J F1 H1 a1 js D hD
  have k : KN K W F H σ Q (.need (xs.length ≤ 16777216) (compL tst el xs)) := k
  by_cases c : xs.length ≤ 16777216
  case neg => rw [Res.need_neg c] at k; exact k.elim
  rw [Res.need_pos c] at k
  have hn : (xs.map toD).length = xs.length := List.length_map ..
  have hDF : F1 D = none := none_of_ex a1.in_ hD
  have hDH : H D = none := Evl.fresh_back a1.h hD
  have hD0 : H0 D = none := Evl.fresh_back S.adv.h hDH
  -- the new list is none of the slots'
  have hne : ∀ (i : Nat) (sk : Sk), env[i]? = some (some sk) → sk.own = true → σ[i]? ≠ some (some (V.ref D)) := fun i sk e ho z => by
    obtain ⟨v, e1, q⟩ := S.slot i _ e
    obtain ⟨p, o, rfl, _, _, q⟩ := q.at ho
    rw [e1] at z; cases z
    rw [hDH] at q; cases q
  have S1 : Sl K F0 H0 F1 (upd H1 D (.lst [])) σ env := (S.step a1).updN hDF hD0 hne
  refine ⟨fun i n H' => n = xs.length - i ∧ i ≤ xs.length ∧ ∃ F' acc vs, Sl K F0 H0 F' H' σ env ∧ Adv F H F' H' ∧ Ex F1 F' ∧ F' D = none ∧ H' D = some (.lst vs) ∧ Reps K F' (acc.map toD) vs ∧ acc.length ≤ i ∧
    (∀ ys, compL tst el (xs.drop i) = .ok ys → compL tst el xs = .ok (acc ++ ys)) ∧ (∀ c, compL tst el (xs.drop i) = .exc c → compL tst el xs = .exc c) ∧ (compL tst el (xs.drop i) = .stuck → compL tst el xs = .stuck),
    ⟨xs.length, rfl, Nat.zero_le _, F1, ([] : List β), [], S1, a1.trans (Adv.newO a1.in_ hD), Ex.refl _, hDF, upd_same, (show Reps K F1 [] [] from rfl), Nat.le_refl _, fun ys h => h, fun c h => h, fun h => h⟩, ?_⟩
  rintro i n H2 ⟨rfl, hle, F2, acc, vs, S2, a2, x2, f2, h2, r2, l2, q1, q2, q3⟩
  by_cases hlt : i < xs.length
  · refine .inr ⟨js.go i H2 (x2.trans a2.in_) (by rw [hn]; exact hlt), fun H' => (i + 1 ≤ xs.length ∧ ∃ F' acc vs, Sl K F0 H0 F' H' σ env ∧ Adv F H F' H' ∧ Ex F1 F' ∧ F' D = none ∧ H' D = some (.lst vs) ∧ Reps K F' (acc.map toD) vs ∧ acc.length ≤ i + 1 ∧
      (∀ ys, compL tst el (xs.drop (i + 1)) = .ok ys → compL tst el xs = .ok (acc ++ ys)) ∧ (∀ c, compL tst el (xs.drop (i + 1)) = .exc c → compL tst el xs = .exc c) ∧ (compL tst el (xs.drop (i + 1)) = .stuck → compL tst el xs = .stuck)),
      fun H' w => ⟨_, by omega, rfl, w⟩, fun v H3 hy => ?_⟩
    obtain ⟨F3, x, a3, ex, rx⟩ := js.yld i H2 v H3 F2 x2 a2.in_ (by rw [hn]; exact hlt) hy
    rw [List.getElem?_map, List.getElem?_eq_getElem hlt] at ex
    cases ex
    have e : xs.drop i = xs[i] :: xs.drop (i + 1) := List.drop_eq_getElem_cons hlt
    rw [e] at q1 q2 q3
    have S3 := S2.step a3
    refine hg xs[i] F0 H0 F3 H3 _ _ v _ (S3.wipe ws) rx fun σ' S' sl so => ⟨wipe_eq sl so, ?_⟩
    have f3 : F3 D = none := a3.out D f2 (by rw [h2]; simp)
    refine ht xs[i] F0 H0 F3 H3 σ' _ S' ?_
    cases qt : tst xs[i] with
    | exc c => exact fun _ _ _ => trivial
    | stuck =>
      have := q3 (by show (tst xs[i]).bind _ = _; rw [qt]; rfl)
      rw [this] at k; exact k.elim
    | ok b =>
    intro F4 H4 a4
    have f4 : F4 D = none := a4.out D f3 (by rw [a3.h _ _ h2]; simp)
    cases b with
    | false =>
      show i + 1 ≤ xs.length ∧ _
      refine ⟨hlt, F4, acc, vs, S3.step a4, (a2.trans a3).trans a4, (x2.trans a3.f).trans a4.f, f4, a4.h _ _ (a3.h _ _ h2), Reps.mono (a3.trans a4).f _ _ r2, by omega, fun ys h => ?_, fun c h => ?_, fun h => ?_⟩
      · exact q1 ys (by show (tst xs[i]).bind _ = _; rw [qt]; exact h)
      · exact q2 c (by show (tst xs[i]).bind _ = _; rw [qt]; exact h)
      · exact q3 (by show (tst xs[i]).bind _ = _; rw [qt]; exact h)
    | true =>
      show te σ' H4 _
      refine he xs[i] F0 H0 F4 H4 σ' _ (S'.step a4) ?_
      cases qe : el xs[i] with
      | exc c => exact fun _ _ _ => trivial
      | stuck =>
        have := q3 (by show (tst xs[i]).bind _ = _; rw [qt]; show (el xs[i]).bind _ = _; rw [qe]; rfl)
        rw [this] at k; exact k.elim
      | ok y =>
      intro w F5 H5 a5 r5
      have f5 : F5 D = none := a5.out D f4 (by rw [a4.h _ _ (a3.h _ _ h2)]; simp)
      have h5 : H5 D = some (.lst vs) := a5.h _ _ (a4.h _ _ (a3.h _ _ h2))
      have ad := ((a2.trans a3).trans a4).trans a5
      refine ⟨vs, h5, by rw [sizeLine_eq, ← r2.length, List.length_map]; omega, hlt, F5, acc ++ [y], vs ++ [w], ((S3.step a4).step a5).updN f5 hD0 hne, ⟨ad.f, fun a u q => ?_, fun a u q => ?_, ad.out⟩,
        ((x2.trans a3.f).trans a4.f).trans a5.f, f5, upd_same, ?_, by rw [List.length_append]; simp; omega, fun ys h => ?_, fun c h => ?_, fun h => ?_⟩
      · rw [upd_ne (ne_of_none q hDH)]; exact ad.h a u q
      · rw [upd_ne (ne_of_none q f5)]; exact ad.in_ a u q
      · rw [List.map_append]
        exact Reps.append (Reps.mono ((a3.trans a4).trans a5).f _ _ r2) (Reps.one r5)
      · rw [q1 (y :: ys) (by show (tst xs[i]).bind _ = _; rw [qt]; show (el xs[i]).bind _ = _; rw [qe]; show (compL tst el _).bind _ = _; rw [h]; rfl)]
        rw [List.append_assoc]; rfl
      · exact q2 c (by show (tst xs[i]).bind _ = _; rw [qt]; show (el xs[i]).bind _ = _; rw [qe]; show (compL tst el _).bind _ = _; rw [h]; rfl)
      · exact q3 (by show (tst xs[i]).bind _ = _; rw [qt]; show (el xs[i]).bind _ = _; rw [qe]; show (compL tst el _).bind _ = _; rw [h]; rfl)
  · have e : xs.drop i = [] := List.drop_of_length_le (by omega)
    rw [e] at q1
    have := q1 [] rfl
    rw [List.append_nil] at this
    rw [this] at k
    exact .inl ⟨js.stop i H2 (x2.trans a2.in_) (by rw [hn]; omega), k D vs F2 H2 a2 hDH f2 h2 r2⟩
theorem et_yes : EvT K W env tYes (.ok true) := fun F0 H0 F H σ Q S k => k F H (Adv.refl S.ex)

/-! ### built-in defs -/
theorem cx_len : CrX K (fun xs H Q => ∃ p ys, xs = [.ref p] ∧ (SqL K H p ys ∨ SqT K H p ys) ∧ Q (.int ys.length) H) (fun (p : List α × Unit) => .ok (p.1.length : Int)) := fun F H x vs Q e r k => by
  obtain ⟨v, r1, rfl, ⟨a, ws, rfl, hl, hr⟩, h2⟩ := r
  cases (show r1 = [] from h2)
  refine ⟨a, ws, rfl, .inl (sq_ex e hl), ?_⟩
  rw [← hr.length, List.length_map]
  exact k _ F H (Adv.refl e) rfl
theorem cx_lenT {n : Nat} (hn : ∀ x : α, ∃ ds, toD x = .tup ds ∧ ds.length = n) : CrX K (fun xs H Q => ∃ p ys, xs = [.ref p] ∧ (SqL K H p ys ∨ SqT K H p ys) ∧ Q (.int ys.length) H) (fun (p : α × Unit) => .ok (n : Int)) := fun F H x vs Q e r k => by
  obtain ⟨v, r1, rfl, hv, h2⟩ := r
  obtain ⟨ds, e1, e2⟩ := hn x.1
  have hv : Rep K F (toD x.1) v := hv
  rw [e1] at hv
  obtain ⟨a, ws, rfl, hl, hr⟩ := hv
  cases (show r1 = [] from h2)
  refine ⟨a, ws, rfl, .inr (Evl.ex_t e hl), ?_⟩
  rw [← hr.length, e2]
  exact k _ F H (Adv.refl e) rfl
theorem ev_lenO {j : Nat} {xs : List α} (h : env[j]? = some (some (.ow (xs.map toD)))) : EvX K W env (tCB (fun xs H Q => ∃ p ys, xs = [V.ref p] ∧ (SqL K H p ys ∨ SqT K H p ys) ∧ Q (.int ys.length) H) (tCons (tVar j) tNil)) (.ok (xs.length : Int)) := fun F0 H0 F H σ Q S k => by
  obtain ⟨v, e, p, vs, rfl, h0, hf, hp, hr⟩ := S.slot j _ h
  refine ⟨_, e, p, vs, rfl, .inl (.inl (.inl hp)), ?_⟩
  rw [← hr.length, List.length_map]
  exact k _ F H (Adv.refl S.ex) rfl
theorem cx_abs : CrX K (fun xs H Q => ∃ i, xs = [.int i] ∧ Q (.int (if i < 0 then -i else i)) H) (fun (p : Int × Unit) => .ok (p.1.natAbs : Int)) := fun F H x vs Q e r k => by
  obtain ⟨v, r1, rfl, h1, h2⟩ := r
  cases (show r1 = [] from h2); cases (show v = V.int x.1 from h1)
  refine ⟨x.1, rfl, ?_⟩
  have q : (if x.1 < 0 then -x.1 else x.1) = (x.1.natAbs : Int) := by split <;> omega
  rw [q]
  exact k _ F H (Adv.refl e) rfl
theorem cx_max : CrX K (fun xs H Q => ∃ i j, xs = [.int i, .int j] ∧ Q (.int (if j > i then j else i)) H) (fun (p : Int × Int × Unit) => .ok (max p.1 p.2.1)) := fun F H x vs Q e r k => by
  obtain ⟨v, r1, rfl, h1, w, r2, rfl, h2, h3⟩ := r
  cases (show r2 = [] from h3); cases (show v = V.int x.1 from h1); cases (show w = V.int x.2.1 from h2)
  refine ⟨x.1, x.2.1, rfl, ?_⟩
  have q : (if x.2.1 > x.1 then x.2.1 else x.1) = max x.1 x.2.1 := by split <;> omega
  rw [q]
  exact k _ F H (Adv.refl e) rfl
theorem cx_min : CrX K (fun xs H Q => ∃ i j, xs = [.int i, .int j] ∧ Q (.int (if j < i then j else i)) H) (fun (p : Int × Int × Unit) => .ok (min p.1 p.2.1)) := fun F H x vs Q e r k => by
  obtain ⟨v, r1, rfl, h1, w, r2, rfl, h2, h3⟩ := r
  cases (show r2 = [] from h3); cases (show v = V.int x.1 from h1); cases (show w = V.int x.2.1 from h2)
  refine ⟨x.1, x.2.1, rfl, ?_⟩
  have q : (if x.2.1 < x.1 then x.2.1 else x.1) = min x.1 x.2.1 := by split <;> omega
  rw [q]
  exact k _ F H (Adv.refl e) rfl
theorem cx_int : CrX K (fun xs H Q => (∃ i, xs = [.int i] ∧ Q (.int i) H) ∨ ∃ k, xs = [.bl k] ∧ Q (.int (if k then 1 else 0)) H) (fun (p : Int × Unit) => .ok p.1) := fun F H x vs Q e r k => by
  obtain ⟨v, r1, rfl, h1, h2⟩ := r
  cases (show r1 = [] from h2); cases (show v = V.int x.1 from h1)
  exact .inl ⟨x.1, rfl, k _ F H (Adv.refl e) rfl⟩
theorem cx_intB : CrX K (fun xs H Q => (∃ i, xs = [.int i] ∧ Q (.int i) H) ∨ ∃ k, xs = [.bl k] ∧ Q (.int (if k then 1 else 0)) H) (fun (p : Bool × Unit) => .ok (if p.1 = true then (1 : Int) else 0)) := fun F H x vs Q e r k => by
  obtain ⟨v, r1, rfl, h1, h2⟩ := r
  cases (show r1 = [] from h2); cases (show v = V.bl x.1 from h1)
  exact .inr ⟨x.1, rfl, k _ F H (Adv.refl e) rfl⟩
/-- the greatest, the least of a list that is not empty -/
def lmax : List Int → Int
  | [] => 0
  | x :: r => r.foldl max x
def lmin : List Int → Int
  | [] => 0
  | x :: r => r.foldl min x
theorem foldl_max_ge (r : List Int) : ∀ x, x ≤ r.foldl max x ∧ ∀ y ∈ r, y ≤ r.foldl max x := by
  induction r with
  | nil => intro x; exact ⟨Int.le_refl _, fun y h => by cases h⟩
  | cons a r ih =>
    intro x
    obtain ⟨h1, h2⟩ := ih (max x a)
    refine ⟨by have : x ≤ max x a := Int.le_max_left ..; exact Int.le_trans this h1, fun y hy => ?_⟩
    rcases List.mem_cons.mp hy with rfl | hy
    · exact Int.le_trans (Int.le_max_right ..) h1
    · exact h2 y hy
theorem foldl_max_mem (r : List Int) : ∀ x, r.foldl max x = x ∨ r.foldl max x ∈ r := by
  induction r with
  | nil => intro x; exact .inl rfl
  | cons a r ih =>
    intro x
    rcases ih (max x a) with h | h
    · show List.foldl max (max x a) r = x ∨ List.foldl max (max x a) r ∈ _
      rw [h]
      by_cases c : x ≤ a
      · rw [Int.max_eq_right c]; exact .inr List.mem_cons_self
      · rw [Int.max_eq_left (by omega)]; exact .inl rfl
    · exact .inr (List.mem_cons_of_mem _ h)
theorem foldl_min_le (r : List Int) : ∀ x, r.foldl min x ≤ x ∧ ∀ y ∈ r, r.foldl min x ≤ y := by
  induction r with
  | nil => intro x; exact ⟨Int.le_refl _, fun y h => by cases h⟩
  | cons a r ih =>
    intro x
    obtain ⟨h1, h2⟩ := ih (min x a)
    refine ⟨by have : min x a ≤ x := Int.min_le_left ..; exact Int.le_trans h1 this, fun y hy => ?_⟩
    rcases List.mem_cons.mp hy with rfl | hy
    · exact Int.le_trans h1 (Int.min_le_right ..)
    · exact h2 y hy
theorem foldl_min_mem (r : List Int) : ∀ x, r.foldl min x = x ∨ r.foldl min x ∈ r := by
  induction r with
  | nil => intro x; exact .inl rfl
  | cons a r ih =>
    intro x
    rcases ih (min x a) with h | h
    · show List.foldl min (min x a) r = x ∨ List.foldl min (min x a) r ∈ _
      rw [h]
      by_cases c : x ≤ a
      · rw [Int.min_eq_left c]; exact .inl rfl
      · rw [Int.min_eq_right (by omega)]; exact .inr List.mem_cons_self
    · exact .inr (List.mem_cons_of_mem _ h)
theorem lmax_spec {ns : List Int} {m : Int} (h1 : m ∈ ns) (h2 : ∀ y ∈ ns, y ≤ m) : m = lmax ns := by
  cases ns with
  | nil => cases h1
  | cons x r =>
    show m = r.foldl max x
    obtain ⟨g1, g2⟩ := foldl_max_ge r x
    have a : m ≤ r.foldl max x := by
      rcases List.mem_cons.mp h1 with rfl | h
      · exact g1
      · exact g2 m h
    have b : r.foldl max x ≤ m := by
      rcases foldl_max_mem r x with e | e
      · rw [e]; exact h2 x List.mem_cons_self
      · exact h2 _ (List.mem_cons_of_mem _ e)
    omega
theorem lmin_spec {ns : List Int} {m : Int} (h1 : m ∈ ns) (h2 : ∀ y ∈ ns, m ≤ y) : m = lmin ns := by
  cases ns with
  | nil => cases h1
  | cons x r =>
    show m = r.foldl min x
    obtain ⟨g1, g2⟩ := foldl_min_le r x
    have a : r.foldl min x ≤ m := by
      rcases List.mem_cons.mp h1 with rfl | h
      · exact g1
      · exact g2 m h
    have b : m ≤ r.foldl min x := by
      rcases foldl_min_mem r x with e | e
      · rw [e]; exact h2 x List.mem_cons_self
      · exact h2 _ (List.mem_cons_of_mem _ e)
    omega
theorem cx_lmax : CrX K (rMax K) (fun (p : List Int × Unit) => .need (0 < p.1.length) (.ok (lmax p.1))) := fun F H x vs Q e r k => by
  obtain ⟨v, r1, rfl, ⟨a, ws, rfl, hl, hr⟩, h2⟩ := r
  cases (show r1 = [] from h2)
  have e2 : ws = x.1.map V.int := Reps.ints hr
  subst e2
  by_cases c : 0 < x.1.length
  · dsimp only at k
    rw [Res.need_pos c] at k
    refine ⟨a, x.1, rfl, sq_ex e hl, c, fun m h1 h2 => ?_⟩
    rw [lmax_spec h1 h2]
    exact k _ F H (Adv.refl e) rfl
  · dsimp only at k; rw [Res.need_neg c] at k; exact k.elim
theorem cx_lmin : CrX K (rMin K) (fun (p : List Int × Unit) => .need (0 < p.1.length) (.ok (lmin p.1))) := fun F H x vs Q e r k => by
  obtain ⟨v, r1, rfl, ⟨a, ws, rfl, hl, hr⟩, h2⟩ := r
  cases (show r1 = [] from h2)
  have e2 : ws = x.1.map V.int := Reps.ints hr
  subst e2
  by_cases c : 0 < x.1.length
  · dsimp only at k
    rw [Res.need_pos c] at k
    refine ⟨a, x.1, rfl, sq_ex e hl, c, fun m h1 h2 => ?_⟩
    rw [lmin_spec h1 h2]
    exact k _ F H (Adv.refl e) rfl
  · dsimp only at k; rw [Res.need_neg c] at k; exact k.elim
theorem cx_sum : CrX K (rSum K) (fun (p : List Int × Unit) => .ok p.1.sum) := fun F H x vs Q e r k => by
  obtain ⟨v, r1, rfl, ⟨a, ws, rfl, hl, hr⟩, h2⟩ := r
  cases (show r1 = [] from h2)
  have e2 : ws = x.1.map V.int := Reps.ints hr
  subst e2
  exact ⟨a, x.1, rfl, sq_ex e hl, k _ F H (Adv.refl e) rfl⟩
theorem cx_all : CrX K (rAll K) (fun (p : List Bool × Unit) => .ok (p.1.all id)) := fun F H x vs Q e r k => by
  obtain ⟨v, r1, rfl, ⟨a, ws, rfl, hl, hr⟩, h2⟩ := r
  cases (show r1 = [] from h2)
  have e2 : ws = x.1.map V.bl := Reps.bls hr
  subst e2
  exact ⟨a, x.1, rfl, sq_ex e hl, k _ F H (Adv.refl e) rfl⟩
theorem cx_any : CrX K (rAny K) (fun (p : List Bool × Unit) => .ok (p.1.any id)) := fun F H x vs Q e r k => by
  obtain ⟨v, r1, rfl, ⟨a, ws, rfl, hl, hr⟩, h2⟩ := r
  cases (show r1 = [] from h2)
  have e2 : ws = x.1.map V.bl := Reps.bls hr
  subst e2
  exact ⟨a, x.1, rfl, sq_ex e hl, k _ F H (Adv.refl e) rfl⟩
/-- list(xs): a new list -/
theorem en_list {m : Res (List α)} (h : EvX K W env te m) : EvN K W env (tCB (fun xs H Q => ∃ p ys, xs = [V.ref p] ∧ (SqL K H p ys ∨ SqT K H p ys) ∧ ∀ l, H l = none → Q (.ref l) (upd H l (.lst ys))) (tCons te tNil)) m := fun F0 H0 F H σ Q S k => by
  refine h F0 H0 F H σ _ S ?_
  cases m with
  | ok xs =>
    intro v F1 H1 a r
    obtain ⟨p, vs, rfl, h1, h2⟩ := r
    exact ⟨p, vs, rfl, .inl (sq_ex a.in_ h1), fun l hl => k l vs F1 _ (a.trans (Adv.newO a.in_ hl)) (Evl.fresh_back a.h hl) (none_of_ex a.in_ hl) upd_same h2⟩
  | exc c => exact k
  | stuck => exact k.elim
theorem en_listT {m : Res (Tu α)} (h : EvX K W env te m) : EvN K W env (tCB (fun xs H Q => ∃ p ys, xs = [V.ref p] ∧ (SqL K H p ys ∨ SqT K H p ys) ∧ ∀ l, H l = none → Q (.ref l) (upd H l (.lst ys))) (tCons te tNil)) (m.bind fun x => .ok x.xs) := fun F0 H0 F H σ Q S k => by
  refine h F0 H0 F H σ _ S ?_
  cases m with
  | ok xs =>
    intro v F1 H1 a r
    obtain ⟨p, vs, rfl, h1, h2⟩ := r
    exact ⟨p, vs, rfl, .inr (Evl.ex_t a.in_ h1), fun l hl => k l vs F1 _ (a.trans (Adv.newO a.in_ hl)) (Evl.fresh_back a.h hl) (none_of_ex a.in_ hl) upd_same h2⟩
  | exc c => exact k
  | stuck => exact k.elim
/-- tuple(xs) of a list -/
theorem ev_tupleL {m : Res (List α)} (h : EvX K W env te m) : EvX K W env (tCB (fun xs H Q => ∃ p ys, xs = [V.ref p] ∧ ((SqL K H p ys ∧ ∀ l, H l = none → Q (.ref l) (upd H l (.tup ys))) ∨ (SqT K H p ys ∧ Q (.ref p) H))) (tCons te tNil)) (m.bind fun x => .ok (Tu.mk x)) := fun F0 H0 F H σ Q S k => by
  refine h F0 H0 F H σ _ S ?_
  cases m with
  | ok xs =>
    intro v F1 H1 a r
    obtain ⟨p, vs, rfl, h1, h2⟩ := r
    refine ⟨p, vs, rfl, .inl ⟨sq_ex a.in_ h1, fun l hl => ?_⟩⟩
    have a2 : Adv F1 H1 (upd F1 l (.tup vs)) (upd H1 l (.tup vs)) := Adv.new a.in_ hl
    exact k _ _ _ (a.trans a2) ⟨l, vs, rfl, .inl (.inl upd_same), Reps.mono a2.f _ _ h2⟩
  | exc c => exact k
  | stuck => exact k.elim
/-- xs[lo:hi] -/
theorem en_slice {m : Res (List α)} {lo hi : Option Int} {tl th : TO} (h : EvX K W env te m) (hl : ∀ σ H Q, Q lo H → tl σ H Q) (hh : ∀ σ H Q, Q hi H → th σ H Q) :
    EvN K W env (tSl (rSlL K) te tl th) (m.bind fun xs => .ok ((xs.drop (HT.sIx xs.length 0 lo)).take (HT.sIx xs.length xs.length hi - HT.sIx xs.length 0 lo))) := fun F0 H0 F H σ Q S k => by
  refine h F0 H0 F H σ _ S ?_
  cases m with
  | ok xs =>
    intro v F1 H1 a r
    obtain ⟨p, vs, rfl, h1, h2⟩ := r
    refine hl _ _ _ (hh _ _ _ ⟨p, vs, rfl, sq_ex a.in_ h1, fun l hl => ?_⟩)
    refine k l _ F1 _ (a.trans (Adv.newO a.in_ hl)) (Evl.fresh_back a.h hl) (none_of_ex a.in_ hl) upd_same ?_
    have e : xs.length = vs.length := by have := h2.length; rwa [List.length_map] at this
    unfold cutV
    rw [List.map_take, List.map_drop, e]
    exact Reps.take _ (Reps.drop _ h2)
  | exc c => exact k
  | stuck => exact k.elim
theorem to_none : ∀ (σ : L2.St) (H : Hp) (Q : Option Int → Hp → Prop), Q none H → tNoPart σ H Q := fun _ _ _ q => q
theorem to_int {i : Int} : ∀ (σ : L2.St) (H : Hp) (Q : Option Int → Hp → Prop), Q (some i) H → tPart (tC (.int i)) σ H Q := fun _ _ _ q => ⟨i, rfl, q⟩

/-! ### isinstance of data -/
def tyName : D → String
  | .non => "NoneType" | .bl _ => "bool" | .int _ => "int" | .str _ => "str" | .ty _ => "type" | .tup _ => "tuple" | .lst _ => "list" | .obj _ _ _ => "object" | .ro _ => "list"
def D.plain : D → Bool
  | .ty _ => false | .obj _ _ _ => false | .ro _ => false | _ => true
theorem tyx_of {x : D} {v : V} (h : Rep K F x v) (e : Ex F H) (p : x.plain = true) : TyX K H v (.type (tyName x)) := by
  cases x with
  | non => rw [show v = V.non from h]; exact .base .non
  | bl b => rw [show v = V.bl b from h]; exact .base (.bl b)
  | int b => rw [show v = V.int b from h]; exact .base (.int b)
  | str b => rw [show v = V.str b from h]; exact .base (.str b)
  | ty b => cases p
  | obj c ks ds => cases p
  | ro ds => cases p
  | lst ds =>
    obtain ⟨a, vs, rfl, hl, _⟩ := h
    rcases sq_ex e hl with (q | ⟨o, q⟩) | ⟨o, its, n, q1, q2, _⟩
    · exact .base (.lst q)
    · exact .base (.frz q)
    · exact .kList q1 q2
  | tup ds =>
    obtain ⟨a, vs, rfl, hl, _⟩ := h
    rcases Evl.ex_t e hl with (q | ⟨o, q⟩) | ⟨o, its, n, q1, q2, _⟩
    · exact .base (.tup q)
    · exact .fTuple q
    · exact .kTuple q1 q2
/-- isinstance(x, T), T a built-in class, x any data but objects -/
def isI (n : String) (x : D) : Bool := tyName x == n || (n == "int" && tyName x == "bool")
def isiOk (n : String) : Prop := kitB "NoneType" n = some ("NoneType" == n) ∧ kitB "bool" n = some ("bool" == n || n == "int") ∧ kitB "int" n = some ("int" == n) ∧ kitB "str" n = some ("str" == n) ∧ kitB "tuple" n = some ("tuple" == n) ∧ kitB "list" n = some ("list" == n)
theorem ev_isi {n : String} {m : Res α} (hn : isiOk n) (h : EvX K W env te m) : EvX K W env (tCB (rIsi K) (tCons te (tCons (tC (.ty n)) tNil))) (m.bind fun x => .need ((toD x).plain = true) (.ok (isI n (toD x)))) := fun F0 H0 F H σ Q S k => by
  refine h F0 H0 F H σ _ S (KE.cut S.ex k fun x v F1 H1 e1 a1 r1 k1 => ?_)
  by_cases c : (toD x).plain = true
  · rw [Res.need_pos c] at k1
    refine ⟨v, .ty n, _, _, isI n (toD x), rfl, .ty n, tyx_of r1 a1.in_ c, ?_, k1 _ F1 H1 (Adv.refl a1.in_) rfl⟩
    refine kit_ty ?_
    obtain ⟨h1, h2, h3, h4, h5, h6⟩ := hn
    revert c
    generalize toD x = y
    intro c
    cases y with
    | non => rw [show tyName .non = "NoneType" from rfl, h1]; simp [isI, tyName]
    | bl b => rw [show tyName (.bl b) = "bool" from rfl, h2]; simp [isI, tyName]
    | int b => rw [show tyName (.int b) = "int" from rfl, h3]; simp [isI, tyName]
    | str b => rw [show tyName (.str b) = "str" from rfl, h4]; simp [isI, tyName]
    | tup b => rw [show tyName (.tup b) = "tuple" from rfl, h5]; simp [isI, tyName]
    | lst b => rw [show tyName (.lst b) = "list" from rfl, h6]; simp [isI, tyName]
    | ty b => cases c
    | obj a b d => cases c
    | ro a => cases c
  · rw [Res.need_neg c] at k1; exact k1.elim
theorem isi_int : isiOk "int" := by unfold isiOk; decide +kernel
theorem isi_bool : isiOk "bool" := by unfold isiOk; decide +kernel
theorem isi_list : isiOk "list" := by unfold isiOk; decide +kernel
theorem isi_tuple : isiOk "tuple" := by unfold isiOk; decide +kernel
theorem isi_str : isiOk "str" := by unfold isiOk; decide +kernel

/-! ### errors -/
/-- what a body of a try gives: it falls through, or it hands back -/
inductive Fall (S τ : Type) where
  | go (s : S) | back (x : τ)
instance {S τ : Type} [ToD τ] : ToD (Fall S τ) := ⟨fun x => match x with | .go _ => .obj Str.empty [] [.non] | .back x => ToD.d x⟩
theorem no_go {S : Type} {s : S} {v : V} (h : Rep K F (toD (Fall.go s : Fall S τ)) v) : False := by
  obtain ⟨a, dx, vs, _, _, h3, h4⟩ := h
  obtain ⟨w, r, e, _⟩ := h4
  subst e
  simp at h3
/-- the classes of the errors: which they are, which is under which -/
structure Cls (K : PySem.W.Frag) (cs : List Str) (sub : Str → Str → Bool) : Prop where
  exc : ∀ c ∈ cs, ExcC K (He.ga K c)
  exm : ∀ c ∈ cs, ∀ d ∈ cs, PySem.W.exmOne K (.ref (He.ga K c)) (.ref (He.ga K d)) = some (sub c d)
  kit : ∀ c ∈ cs, ∀ d ∈ cs, PySem.W.kitOne K (.ref (He.ga K c)) (.ref (He.ga K d)) = some (sub c d)
  kiv : ∀ c ∈ cs, PySem.W.kitOne K (.ref (He.ga K c)) (.type "ValueError") = some true
/-- the outcome of: try body, except X -/
def tryR {S τ : Type} (known : Str → Bool) (sub : Str → Bool) (m : Res (Fall S τ)) (rest : S → Res τ) (hd : Str → Res τ) : Res τ := match m with
  | .ok (.go s) => rest s
  | .ok (.back x) => .ok x
  | .exc c => if known c = true then (if sub c = true then hd c else .exc c) else .stuck
  | .stuck => .stuck
theorem Sl.setNone {K : PySem.W.Frag} {F0 H0 F H : Hp} {σ : L2.St} {env : En} (S : Sl K F0 H0 F H σ env) (i : Nat) : Sl K F0 H0 F H (σ.set i none) (env.set i none) := by
  refine ⟨S.adv, fun j sk e => ?_, fun j k xs ys p hjk e1 e2 o1 o2 h1 => ?_, by rw [List.length_set, List.length_set]; exact S.len⟩
  · rcases set_get e with ⟨_, z⟩ | ⟨z, e⟩
    · cases z
    · obtain ⟨w, q1, q2⟩ := S.slot j sk e
      exact ⟨w, by rw [List.getElem?_set_ne z]; exact q1, q2⟩
  · rcases set_get e1 with ⟨_, z⟩ | ⟨z1, e1⟩
    · cases z
    rcases set_get e2 with ⟨_, z⟩ | ⟨z2, e2⟩
    · cases z
    rw [List.getElem?_set_ne z1] at h1
    rw [List.getElem?_set_ne z2]
    exact S.dis j k xs ys p hjk e1 e2 o1 o2 h1
/-- the body falls through by s (envS s, rest s), or hands back; the suite hands back, or falls through to mr -/
theorem blk_tryAs {S : Type} {cs : List Str} {sub : Str → Str → Bool} {x : Str} {i : Nat} {tb : WX → TS} {ts : Addr → Value → Option Addr → TS} {envS : S → En} {m : Res (Fall S τ)} {rest : S → Res τ} {hd : Str → Res τ}
    (L : Lk K W F0 H0 rt PT KP) (hT : PT env) (C : Cls K cs sub) (hx : x ∈ cs)
    (hb : ∀ (W' : WX) (KP' : Res (Fall S τ) → Prop), Lk K W' F0 H0 rt (fun e => EnLe e env) KP' → (∀ s, Blk K F0 H0 KP' Z.nx (envS s) (.ok (.go s))) → Blk K F0 H0 KP' (tb W' Z) env m)
    (hs : ∀ (c : Str) (a : Addr) (nx bk ct : L2.St → Hp → Prop), c ∈ cs → sub c x = true → (∀ env' m', Blk K F0 H0 KP Z.nx (env'.set i none) m' → Blk K F0 H0 KP nx env' m') →
      Blk K F0 H0 KP (ts a (.ref (He.ga K c)) none { nx := nx, rt := rt, bk := bk, ct := ct }) (env.set i (some (.raw (.ref a)))) (hd c))
    (hr : ∀ s, Blk K F0 H0 KP Z.nx (envS s) (rest s)) (hZ : Z.rt = rt := by rfl) :
    Blk K F0 H0 KP (tb (wAs K (.ref (He.ga K x)) i ts W Z) Z) env (tryR (fun c => decide (c ∈ cs)) (fun c => sub c x) m rest hd) := fun F H σ S1 h => by
  subst hZ
  refine hb (wAs K (.ref (He.ga K x)) i ts W Z) (fun r => KP (tryR (fun c => decide (c ∈ cs)) (fun c => sub c x) r rest hd)) ⟨fun y h v F H a r => ?_, fun c F H σ env' h p S' => ?_, L.no⟩ (fun s F H σ S h => hr s F H σ S h) F H σ S1 h
  · cases y with
    | go s => exact (no_go r).elim
    | back y => exact L.ok y h v F H a r
  · have h : KP (if decide (c ∈ cs) = true then (if sub c x = true then hd c else .exc c) else .stuck) := h
    by_cases hc : c ∈ cs
    · rw [if_pos (decide_eq_true hc)] at h
      have S2 := S'.weak p
      refine ⟨sub c x, C.exm c hc x hx, fun q a ha => ?_, fun q => ?_⟩
      · rw [if_pos q] at h
        refine hs c a _ _ _ hc q (fun env' m' B F H σ S h => B F H _ (S.setNone i) h) F H _ ?_ h
        refine ⟨S2.adv, fun j sk e => ?_, fun j k xs ys p hjk e1 e2 o1 o2 h1 => ?_, by rw [List.length_set, List.length_set]; exact S2.len⟩
        · rcases set_get e with ⟨rfl, z⟩ | ⟨z, e⟩
          · cases z
            have hi : i < env.length := by
              have h := (List.getElem?_eq_some_iff.mp e).1
              rwa [List.length_set] at h
            exact ⟨_, by rw [List.getElem?_set_self (by rw [S2.len]; exact hi)], rfl⟩
          · obtain ⟨w, q1, q2⟩ := S2.slot j sk e
            exact ⟨w, by rw [List.getElem?_set_ne z]; exact q1, q2⟩
        · rcases set_get e1 with ⟨_, z⟩ | ⟨z1, e1⟩
          · cases z; cases o1
          rcases set_get e2 with ⟨_, z⟩ | ⟨z2, e2⟩
          · cases z; cases o2
          rw [List.getElem?_set_ne z1] at h1
          rw [List.getElem?_set_ne z2]
          exact S2.dis j k xs ys p hjk e1 e2 o1 o2 h1
      · rw [if_neg (by rw [q]; exact Bool.false_ne_true)] at h
        exact L.exc c F H σ env h hT S2
    · rw [if_neg (by simpa using hc)] at h
      exact (L.no h).elim
/-- isinstance(e, C), isinstance(e, (C1, C2)) in the suite -/
def rIsE2 (K : PySem.W.Frag) (a : Addr) (cls : Value) (d : Option Addr) : List V → Hp → VK → Prop := fun xs H Q => ∃ (Dc : Addr) (c : V) (cv : Value) (b : Bool), cls = .ref Dc ∧ d = none ∧ ExcC K Dc ∧ xs = [.ref a, c] ∧ (∀ u, RelV c u → u = cv) ∧ PySem.W.kitOne K (.ref Dc) cv = some b ∧ Q (.bl b) H
theorem call_isE2 {X : Cx} {a : Addr} {cls : Value} {d : Option Addr} {oe : Obj} {pn : List (Addr × Obj)} (hz : Zc cls d oe) (hf : ∃ vs, oe.data = .fields vs) : CallR (X.suite a ((a, oe) :: pn)) (.builtin "isinstance") (rIsE2 X.K a cls d) := by
  intro pins s σ H xs us Q I r h
  obtain ⟨Dc, c, cv, b, rfl, rfl, C, e, k, q, hQ⟩ := h
  exact call_isE (X := X) C hz hf pins s σ H xs us Q I r ⟨c, cv, b, e, k, q, hQ⟩
def rIsET (K : PySem.W.Frag) (a : Addr) (cls : Value) (d : Option Addr) : List V → Hp → VK → Prop := fun xs H Q => ∃ (Dc tp : Addr) (cl : List V) (us : List Value) (b : Bool), cls = .ref Dc ∧ d = none ∧ ExcC K Dc ∧ xs = [.ref a, .ref tp] ∧ H tp = some (.tup cl) ∧ Paired ClsV cl us ∧ PySem.W.kitAny K (.ref Dc) us = some b ∧ Q (.bl b) H
theorem call_isET {X : Cx} {a : Addr} {cls : Value} {d : Option Addr} {oe : Obj} {pn : List (Addr × Obj)} (hz : Zc cls d oe) (hf : ∃ vs, oe.data = .fields vs) : CallR (X.suite a ((a, oe) :: pn)) (.builtin "isinstance") (rIsET X.K a cls d) := by
  intro pins s σ H xs us Q I r h
  obtain ⟨Dc, tp, cl, ws, b, rfl, rfl, C, rfl, hT, k, e, q⟩ := h
  obtain ⟨u1, u2, rfl, r1, r2⟩ := vals2 r
  cases (show u2 = Value.ref tp from r2)
  cases (show u1 = Value.ref a from r1)
  obtain ⟨_, its, rv, o, h1, h2, n, h3⟩ := (show ObjOk X.prog X.w H s.heap tp (.tup cl) from I.hok tp _ hT)
  have e3 := ClsV.all k rv
  subst e3
  obtain ⟨oc, od, dt, sl⟩ := o
  simp only at h2 h3
  subst h2 h3
  obtain ⟨hget, _⟩ := I.pin (a, oe) (List.mem_append.mpr (.inl List.mem_cons_self))
  obtain ⟨vs, hv⟩ := hf
  have J : PySem.W.InstAt s.heap a oe Dc none := by
    obtain ⟨oc, od, oda, osl⟩ := oe
    obtain ⟨h1, h2⟩ := hz
    dsimp only at h1 h2 hv
    subst h1 h2 hv
    exact ⟨hget, rfl, rfl, trivial⟩
  exact PySem.W.kia_tup (PySem.W.handS_kitx_exc C.hg C.hk C.hs C.hd C.ha C.hn C.ht C.hm) I.kIn J h1 e (fun z => nomatch z) fun tk => ⟨.bl b, H, I.tok tk, rfl, q⟩
theorem ev_isE {cs : List Str} {sub : Str → Str → Bool} {c x : Str} {i : Nat} {a : Addr} (C : Cls K cs sub) (hc : c ∈ cs) (hx : x ∈ cs) (h : env[i]? = some (some (.raw (.ref a)))) :
    EvX K W env (tCB (rIsE2 K a (.ref (He.ga K c)) none) (tCons (tVar i) (tCons (tC (.ref (He.ga K x))) tNil))) (.ok (sub c x)) := fun F0 H0 F H σ Q S k => by
  obtain ⟨v, e, q⟩ := S.slot i _ h
  cases (show v = V.ref a from q)
  exact ⟨_, e, He.ga K c, .ref (He.ga K x), .ref (He.ga K x), sub c x, rfl, rfl, C.exc c hc, rfl, fun u r => r, C.kit c hc x hx, k _ F H (Adv.refl S.ex) rfl⟩
theorem ev_isEV {cs : List Str} {sub : Str → Str → Bool} {c : Str} {i : Nat} {a : Addr} (C : Cls K cs sub) (hc : c ∈ cs) (h : env[i]? = some (some (.raw (.ref a)))) :
    EvX K W env (tCB (rIsE2 K a (.ref (He.ga K c)) none) (tCons (tVar i) (tCons (tC (.ty "ValueError")) tNil))) (.ok true) := fun F0 H0 F H σ Q S k => by
  obtain ⟨v, e, q⟩ := S.slot i _ h
  cases (show v = V.ref a from q)
  exact ⟨_, e, He.ga K c, .ty "ValueError", .type "ValueError", true, rfl, rfl, C.exc c hc, rfl, fun u r => r, C.kiv c hc, k _ F H (Adv.refl S.ex) rfl⟩
theorem kit_any {cs : List Str} {sub : Str → Str → Bool} {c : Str} (C : Cls K cs sub) (hc : c ∈ cs) : ∀ {xs : List Str}, (∀ x ∈ xs, x ∈ cs) → PySem.W.kitAny K (.ref (He.ga K c)) (xs.map fun x => .ref (He.ga K x)) = some (xs.any (sub c))
  | [], _ => rfl
  | x :: xs, h => by
    show (match PySem.W.kitOne K (.ref (He.ga K c)) (.ref (He.ga K x)) with | some true => some true | some false => PySem.W.kitAny K (.ref (He.ga K c)) (xs.map fun x => .ref (He.ga K x)) | none => none) = _
    rw [C.kit c hc x (h x List.mem_cons_self), kit_any C hc fun y hy => h y (List.mem_cons_of_mem _ hy)]
    cases q : sub c x <;> simp [q]
theorem ev_isET2 {cs : List Str} {sub : Str → Str → Bool} {c x y : Str} {i : Nat} {a : Addr} (C : Cls K cs sub) (hc : c ∈ cs) (hx : x ∈ cs) (hy : y ∈ cs) (h : env[i]? = some (some (.raw (.ref a)))) :
    EvX K W env (tCB (rIsET K a (.ref (He.ga K c)) none) (tCons (tVar i) (tCons (tTup (tCons (tC (.ref (He.ga K x))) (tCons (tC (.ref (He.ga K y))) tNil))) tNil))) (.ok (sub c x || sub c y)) := fun F0 H0 F H σ Q S k => by
  obtain ⟨v, e, q⟩ := S.slot i _ h
  cases (show v = V.ref a from q)
  refine ⟨_, e, by show 2 ≤ sizeLine; decide, fun p hp => ?_⟩
  have a2 : Adv F H (upd F p (.tup [.ref (He.ga K x), .ref (He.ga K y)])) (upd H p (.tup [.ref (He.ga K x), .ref (He.ga K y)])) := Adv.new S.ex hp
  refine ⟨He.ga K c, p, [.ref (He.ga K x), .ref (He.ga K y)], [.ref (He.ga K x), .ref (He.ga K y)], sub c x || sub c y, rfl, rfl, C.exc c hc, rfl, upd_same, .cons (.own _) (.cons (.own _) .nil), ?_, k _ _ _ a2 rfl⟩
  have := kit_any C hc (xs := [x, y]) (by simp [hx, hy])
  simpa using this
end

/-! ### a def -/
def enStart (N : List Str) (ds : List D) : En := ds.map (fun x => some (.im x)) ++ List.replicate (N.length - ds.length) none
theorem sl_start {K : PySem.W.Frag} {F H : Hp} {N : List Str} {ds : List D} {vs : List V} (e : Ex F H) (r : Reps K F ds vs) : Sl K F H F H (L2.start N vs) (enStart N ds) := by
  have hl := r.length
  refine ⟨Adv.refl e, fun i sk q => ?_, fun i j xs ys p _ q _ oo _ _ => ?_, by simp [L2.start, enStart, hl]⟩
  · unfold enStart at q
    by_cases c : i < ds.length
    · rw [List.getElem?_append_left (by simpa using c), List.getElem?_map, List.getElem?_eq_getElem c] at q
      cases q
      obtain ⟨v, h1, h2⟩ := r.get (List.getElem?_eq_getElem c)
      refine ⟨v, ?_, h2⟩
      unfold L2.start
      rw [List.getElem?_append_left (by rw [List.length_map]; omega), List.getElem?_map, h1]; rfl
    · rw [List.getElem?_append_right (by simpa using c), List.getElem?_replicate] at q
      split at q <;> cases q
  · unfold enStart at q
    by_cases c : i < ds.length
    · rw [List.getElem?_append_left (by simpa using c), List.getElem?_map, List.getElem?_eq_getElem c] at q
      cases q; cases oo
    · rw [List.getElem?_append_right (by simpa using c), List.getElem?_replicate] at q
      split at q <;> cases q
section
variable {P : Program} {w : World} {K : PySem.W.Frag} {mg : Str → Option Value} {base : Heap} {x qual : Str} {params : Arguments} {body : List Stmt} {scope : Scope} {dvs : List V} {kws : List (Str × V)} {f : Addr} {fd : FuncData}
theorem fn_ok {N ps : List Str} {k : Nat} {β τ : Type} [ToDs β] [ToD τ] {fM : β → Res τ} (F : FunD K x qual params body scope dvs kws f fd) (S : FnScope N ps scope) (hl : ∀ y : β, (ToDs.ds y).length = ps.length)
    (hbody : ∀ (cdv : Value) (A : Around) (outer : List Env) (s : Shared) (H : Hp) (E : XK), Room k (A.deeper (PyProof.Rows.envOfC qual scope s.heap.objs.size f cdv)) →
      ∃ t, PSs (cxOf (L2.CX P w) P w K mg base N qual scope f cdv A outer s H E) body t ∧
        ∀ (y : β) (F0 H0 : Hp) (Q : VK) (KP : Res τ → Prop), Lk K (fun cls d _ H => E cls d H) F0 H0 Q (fun _ => True) KP → Blk K F0 H0 KP (t { nx := fun _ H' => Q .non H', rt := Q }) (enStart N (ToDs.ds y)) (fM y)) :
    FnOk P w K mg base (L2.CX P w) (k + 1) f fd ps (spM K fM) := by
  refine F.ok S (fun vs H Q E h => ?_) (fun cdv A outer s H vs Q E hr h => ?_)
  · obtain ⟨F, y, _, r, _⟩ := h
    rw [← r.length]; exact hl y
  · obtain ⟨t, h1, h2⟩ := hbody cdv A outer s H E hr
    refine ⟨t, h1, ?_⟩
    obtain ⟨F, y, e, r, q⟩ := h
    refine h2 y F H Q (fun r => KE K (fun cls d _ H => E cls d H) F H [] Q r) ⟨fun z h v F' H' a r => h v F' H' a r, fun c F' H' σ env h _ S' => h F' H' S'.adv, fun z => z⟩ F H _ (sl_start e r) q
end
end Mi
set_option maxHeartbeats 1000000
namespace Mi
open PySem PySem.Spec L2
open Evl (Ex)
abbrev W0 (E : XK) : WX := fun cls d _ H => E cls d H
theorem need_mild {α : Type} {p : Prop} {x : α} {c : Str} (h : Res.need p (.ok x) = .exc c) : False := by
  by_cases q : p
  · rw [Res.need_pos q] at h; cases h
  · rw [Res.need_neg q] at h; cases h
/-! what a value of any kind is taken for -/
def D.asInt : D → Res Int
  | .int i => .ok i
  | _ => .stuck
def D.asBool : D → Res Bool
  | .bl i => .ok i
  | _ => .stuck
def D.asStr : D → Res Str
  | .str i => .ok i
  | _ => .stuck
def D.asList : D → Res (List D)
  | .lst i => .ok i
  | _ => .stuck
def D.asTu : D → Res (Tu D)
  | .tup i => .ok ⟨i⟩
  | _ => .stuck
def intsOf : List D → Res (List Int)
  | [] => .ok []
  | .int i :: r => (intsOf r).bind fun s => .ok (i :: s)
  | _ :: _ => .stuck
def D.asInts : D → Res (List Int)
  | .lst i => intsOf i
  | _ => .stuck
theorem asInt_ok : ∀ (x : D) (y : Int), x.asInt = .ok y → toD y = x
  | .int i, y, h => by cases h; rfl
theorem asInt_x (x : D) (c : Str) : x.asInt ≠ .exc c := by cases x <;> intro h <;> cases h
theorem asBool_ok : ∀ (x : D) (y : Bool), x.asBool = .ok y → toD y = x
  | .bl i, y, h => by cases h; rfl
theorem asBool_x (x : D) (c : Str) : x.asBool ≠ .exc c := by cases x <;> intro h <;> cases h
theorem asStr_ok : ∀ (x : D) (y : Str), x.asStr = .ok y → toD y = x
  | .str i, y, h => by cases h; rfl
theorem asStr_x (x : D) (c : Str) : x.asStr ≠ .exc c := by cases x <;> intro h <;> cases h
theorem asList_ok : ∀ (x : D) (y : List D), x.asList = .ok y → toD y = x
  | .lst i, y, h => by cases h; show D.lst (i.map fun x => x) = _; rw [List.map_id']
theorem asList_x (x : D) (c : Str) : x.asList ≠ .exc c := by cases x <;> intro h <;> cases h
theorem asTu_ok : ∀ (x : D) (y : Tu D), x.asTu = .ok y → toD y = x
  | .tup i, y, h => by cases h; show D.tup (i.map fun x => x) = _; rw [List.map_id']
theorem asTu_x (x : D) (c : Str) : x.asTu ≠ .exc c := by cases x <;> intro h <;> cases h
theorem intsOf_ok : ∀ (x : List D) (y : List Int), intsOf x = .ok y → y.map D.int = x
  | [], y, h => by cases h; rfl
  | .int i :: r, y, h => by
    have h : (intsOf r).bind (fun s => .ok (i :: s)) = .ok y := h
    cases e : intsOf r with
    | ok z => rw [e] at h; cases h; rw [List.map_cons, intsOf_ok r z e]
    | exc c => rw [e] at h; cases h
    | stuck => rw [e] at h; cases h
theorem intsOf_x : ∀ (x : List D) (c : Str), intsOf x ≠ .exc c
  | [], c, h => by cases h
  | .int i :: r, c, h => by
    have h : (intsOf r).bind (fun s => .ok (i :: s)) = .exc c := h
    cases e : intsOf r with
    | ok z => rw [e] at h; cases h
    | exc c => exact intsOf_x r c e
    | stuck => rw [e] at h; cases h
  | .non :: _, c, h => by cases h
  | .bl _ :: _, c, h => by cases h
  | .str _ :: _, c, h => by cases h
  | .ty _ :: _, c, h => by cases h
  | .tup _ :: _, c, h => by cases h
  | .lst _ :: _, c, h => by cases h
  | .obj _ _ _ :: _, c, h => by cases h
  | .ro _ :: _, c, h => by cases h
theorem asInts_ok : ∀ (x : D) (y : List Int), x.asInts = .ok y → toD y = x
  | .lst i, y, h => congrArg D.lst (intsOf_ok i y h)
theorem asInts_x : ∀ (x : D) (c : Str), x.asInts ≠ .exc c
  | .lst i, c, h => intsOf_x i c h
  | .non, c, h => by cases h
  | .bl _, c, h => by cases h
  | .int _, c, h => by cases h
  | .str _, c, h => by cases h
  | .ty _, c, h => by cases h
  | .tup _, c, h => by cases h
  | .obj _ _ _, c, h => by cases h
  | .ro _, c, h => by cases h
theorem intsOf_map : ∀ (y : List Int), intsOf (y.map D.int) = .ok y
  | [] => rfl
  | i :: r => by show (intsOf (r.map D.int)).bind _ = _; rw [intsOf_map r]; rfl
theorem asInts_toD (y : List Int) : (toD y).asInts = .ok y := intsOf_map y
/-- xs[lo:hi] -/
def cutL {α : Type} (xs : List α) (lo hi : Option Int) : List α := (xs.drop (HT.sIx xs.length 0 lo)).take (HT.sIx xs.length xs.length hi - HT.sIx xs.length 0 lo)
section
variable {K : PySem.W.Frag} {W : WX} {F0 H0 F H F' H' F1 : Hp} {rt : VK} {PT : En → Prop} {env env' : En} {α β γ τ : Type} [ToD α] [ToD β] [ToD γ] [ToD τ] {KP : Res τ → Prop} {te ta tb tc : TE} {tt : TT} {Z : Ends} {t u : TS} {T : L2.St → Hp → Prop} {σ : L2.St}
theorem ev_bits {m : Res Int} (h : EvX K W env te m) : EvX K W env (tBits te) (m.bind fun i => .ok ((Builtin.Int.intBits i : Nat) : Int)) := fun F0 H0 F H σ Q S k => by
  refine h F0 H0 F H σ _ S (KE.cut S.ex k fun x v F1 H1 e1 a1 r1 k1 => ?_)
  exact ⟨x, r1, k1 _ F1 H1 (Adv.refl a1.in_) rfl⟩
theorem ev_cast {m : Res D} {f : D → Res α} (hf : ∀ x y, f x = .ok y → toD y = x) (hx : ∀ x c, f x ≠ .exc c) (h : EvX K W env te m) : EvX K W env te (m.bind f) := fun F0 H0 F H σ Q S k => by
  refine h F0 H0 F H σ _ S ?_
  cases m with
  | ok x =>
    intro v F1 H1 a r
    have k : KE K W F H σ Q (f x) := k
    cases e : f x with
    | ok y => rw [e] at k; exact k v F1 H1 a (by rw [hf x y e]; exact r)
    | exc c => exact absurd e (hx x c)
    | stuck => rw [e] at k; exact k.elim
  | exc c => exact k
  | stuck => exact k.elim
theorem blk_fin {Q : VK} {x : τ} (L : Lk K W F0 H0 Q PT KP) (hx : toD x = .non) : Blk K F0 H0 KP (fun _ H' => Q .non H') env (.ok x) := fun F H σ S h => L.ok x h .non F H S.adv (by rw [hx]; rfl)
/-- what follows first, then the statement -/
theorem blk_with {m1 m : Res τ} {env1 : En} (h1 : Blk K F0 H0 KP Z.nx env1 m1) (h2 : Blk K F0 H0 KP Z.nx env1 m1 → Blk K F0 H0 KP (t Z) env m) : Blk K F0 H0 KP (t Z) env m := h2 h1
theorem blk_if2 {m : Res Bool} {a b : Res τ} (L : Lk K W F0 H0 rt PT KP) (hT : PT env) (hc : EvT K W env tt m) (h1 : Blk K F0 H0 KP (t Z) env a) (h2 : Blk K F0 H0 KP (u Z) env b) :
    Blk K F0 H0 KP (tIfS tt t u Z) env (m.bind fun c => cond c a b) := blk_if L hT hc h1 h2
theorem blk_ifj {S : Type} (envS : S → En) (k : S → Res τ) {m : Res Bool} {a b : Res τ} (L : Lk K W F0 H0 rt PT KP) (hT : PT env) (hc : EvT K W env tt m) (hr : ∀ s, Blk K F0 H0 KP Z.nx (envS s) (k s))
    (h1 : (∀ s, Blk K F0 H0 KP Z.nx (envS s) (k s)) → Blk K F0 H0 KP (t Z) env a) (h2 : (∀ s, Blk K F0 H0 KP Z.nx (envS s) (k s)) → Blk K F0 H0 KP (u Z) env b) :
    Blk K F0 H0 KP (tIfS tt t u Z) env (m.bind fun c => cond c a b) := blk_if L hT hc (h1 hr) (h2 hr)
end
/-- try: .. except X as n: .. -/
def tTry (K : PySem.W.Frag) (c : Value) (i : Nat) (ts : Addr → Value → Option Addr → TS) (W : WX) (tb : WX → TS) : TS := fun D σ H => tb (wAs K c i ts W D) D σ H
section
variable {X : Cx} {x n : Str} {i : Nat} {c : Value} {body suite : List Stmt} {b₀ : Stmt} {np pos pos' : Pos} {tb : WX → TS} {ts : Addr → Value → Option Addr → TS} {Wout : WX}
theorem ps_tryW (hs : X.stack = X.env :: X.outer) (hf : X.env.frame = some X.env.locals) (hN : X.N.Nodup) (hi : X.N[i]? = some n) (hln : X.env.kindOf n = some .local) (hc : Names X x c) (tk : Takes X Wout)
    (hb : ∀ (W : WX) (pn : List (Addr × Obj)) (xe : Value → Shared → Prop), Takes (X.tr pn xe) W → PassesOwn (model X.prog X.w) X.A X.env xe → PSs (X.tr pn xe) body (tb W))
    (hsu : ∀ (a : Addr) (oe : Obj) (cls : Value) (d : Option Addr) (pn : List (Addr × Obj)), Zc cls d oe → (∃ vs, oe.data = .fields vs) → PSs (X.suite a ((a, oe) :: pn)) (b₀ :: suite) (ts a cls d)) :
    PS X (.Try body [.ExceptHandler (some (.Name x np)) (some n) (b₀ :: suite) pos'] [] [] pos) (tTry X.K c i ts Wout tb) := ps_try_as hs hf hN hi hln hc tk hb hsu
end
section
variable {K : PySem.W.Frag} {W : WX} {F0 H0 F H F' H' F1 : Hp} {rt : VK} {PT : En → Prop} {env env' : En} {τ : Type} [ToD τ] {KP : Res τ → Prop} {Z : Ends}
theorem blk_tryW {S : Type} {cs : List Str} {sub : Str → Str → Bool} {x : Str} {i : Nat} {tb : WX → TS} {ts : Addr → Value → Option Addr → TS} {envS : S → En} {m : Res (Fall S τ)} {rest : S → Res τ} {hd : Str → Res τ}
    (L : Lk K W F0 H0 rt PT KP) (hT : PT env) (C : Cls K cs sub) (hx : x ∈ cs)
    (hb : ∀ (W' : WX) (KP' : Res (Fall S τ) → Prop), Lk K W' F0 H0 rt (fun e => EnLe e env) KP' → (∀ s, Blk K F0 H0 KP' Z.nx (envS s) (.ok (.go s))) → Blk K F0 H0 KP' (tb W' Z) env m)
    (hs : ∀ (c : Str) (a : Addr) (nx bk ct : L2.St → Hp → Prop), c ∈ cs → sub c x = true → (∀ env' m', Blk K F0 H0 KP Z.nx (env'.set i none) m' → Blk K F0 H0 KP nx env' m') →
      Blk K F0 H0 KP (ts a (.ref (He.ga K c)) none { nx := nx, rt := rt, bk := bk, ct := ct }) (env.set i (some (.raw (.ref a)))) (hd c))
    (hr : ∀ s, Blk K F0 H0 KP Z.nx (envS s) (rest s)) (hZ : Z.rt = rt := by rfl) :
    Blk K F0 H0 KP (tTry K (.ref (He.ga K x)) i ts W tb Z) env (tryR (fun c => decide (c ∈ cs)) (fun c => sub c x) m rest hd) := blk_tryAs L hT C hx hb hs hr hZ
end
section
variable {X : Cx}
theorem ip_of {op : Operator} {r : R2} (h : OpR X (inplaceOp op) r) : PIp X op r := by
  intro pins s σ H x y v u Q I rx ry q
  exact h pins s σ H x y v u Q I rx ry q
theorem iop_mulX : OpR X (inplaceOp .Mult) (rI CMulX fun i j => .int (i * j)) := opI fun _ _ _ _ _ _ _ hc q => PyProof.Rows.imul_int q hc.ok
end

/-! ### the errors' facts, by one Bool -/
def eqOV (a : Option (Option Value)) (b : Value) : Bool := decide (a = some (some b))
def excCB (K : PySem.W.Frag) (C : Addr) : Bool :=
  He.eqO (PySem.W.findIn K (.ref C) "__getattribute__") (some (some (.builtin "BaseException.__getattribute__"))) && (He.eqO (PySem.W.findIn K (.ref C) "__getattr__") (some none) && (decide (PySem.W.subIn K (.ref C) (.type "BaseException") = some true) && (PySem.W.hasDictIn K C &&
    (He.eqO (PySem.W.findIn K (.ref C) "__class__") (some (some (.builtin "object.__class__"))) && (He.eqO (PySem.W.specialIn K (.builtin "object.__class__") "__get__") (some (some (.builtin "getset_descriptor.__get__"))) &&
      (decide (PySem.W.takesIn K (.builtin "object.__class__") = some true) && decide (PySem.W.mroIn K C (.type "object") = some true)))))))
theorem excC_of {K : PySem.W.Frag} {C : Addr} (h : excCB K C = true) : ExcC K C := by
  obtain ⟨h1, h⟩ := He.ba h
  obtain ⟨h2, h⟩ := He.ba h
  obtain ⟨h3, h⟩ := He.ba h
  obtain ⟨h4, h⟩ := He.ba h
  obtain ⟨h5, h⟩ := He.ba h
  obtain ⟨h6, h⟩ := He.ba h
  obtain ⟨h7, h8⟩ := He.ba h
  exact ⟨He.eqO_ok h1, He.eqO_ok h2, of_decide_eq_true h3, h4, He.eqO_ok h5, He.eqO_ok h6, of_decide_eq_true h7, of_decide_eq_true h8⟩
def clsB (K : PySem.W.Frag) (cs : List Str) (sub : Str → Str → Bool) : Bool := cs.all fun c => excCB K (He.ga K c) && ((cs.all fun d => decide (PySem.W.kitOne K (.ref (He.ga K c)) (.ref (He.ga K d)) = some (sub c d)) && decide (PySem.W.exmOne K (.ref (He.ga K c)) (.ref (He.ga K d)) = some (sub c d))) &&
  decide (PySem.W.kitOne K (.ref (He.ga K c)) (.type "ValueError") = some true))
theorem cls_of {K : PySem.W.Frag} {cs : List Str} {sub : Str → Str → Bool} (h : clsB K cs sub = true) : Cls K cs sub := by
  have h1 : ∀ c ∈ cs, _ := fun c hc => He.ba (List.all_eq_true.mp h c hc)
  refine ⟨fun c hc => excC_of (h1 c hc).1, fun c hc d hd => ?_, fun c hc d hd => ?_, fun c hc => ?_⟩
  · exact of_decide_eq_true (He.ba (List.all_eq_true.mp (He.ba (h1 c hc).2).1 d hd)).2
  · exact of_decide_eq_true (He.ba (List.all_eq_true.mp (He.ba (h1 c hc).2).1 d hd)).1
  · exact of_decide_eq_true (He.ba (h1 c hc).2).2
end Mi
set_option maxHeartbeats 1000000
namespace Mi
open PySem PySem.Spec L2
open Evl (Ex)
theorem walk_end {l : PySem.W.OpenLaw} {n k : Nat} {q : Program} {loose : List Str} {XP : (Str → Option Value) → Heap → Prop} {YP : World → Heap → Prop} {d : PySem.DefRec} {x : Str} {m : Ro Int → Res Bool}
    (hn : l.most = some n) (hn2 : n ≤ sizeLine) (hdf : d.params.defaults = []) (hr : Room k PySem.callerA)
    (F : ∀ (w : World) (mg : Str → Option Value) (fa : Addr) (h : Heap), YP w h → h.Ns mainGlobals mg → mg d.name = some (.ref fa) →
      ∃ (K : PySem.W.Frag) (fd : FuncData), K.In h ∧ (∀ (s : Shared) (u : Value), PySem.BindsTo s fd ⟨[u], []⟩ [(x, u)]) ∧
        ∀ base : Heap, K.In base → base.Ns mainGlobals mg → FnOk l.prog w K mg base (L2.CX l.prog w) k fa fd [x] (spM K (fun (p : Ro Int × Unit) => m p.1)))
    (ht : ∀ ns : List Int, ns.length ≤ n → (∀ i ∈ ns, Builtin.Int.intBits i ≤ 1048576) → m ⟨ns⟩ = .ok true) :
    PySem.W.WalkO q loose XP YP l.row.toRowW d [] (fun f vs => PySem.call f vs) := by
  refine Att.attach_callB hn hdf fun w s₀ s₁ mg mb fa o pm cd doc a vs ns G Y ho hd hcd hmg hobj hints hlen hbits hg => ?_
  obtain ⟨K, fd, KX, hb, hF⟩ := F w mg fa _ Y G.T.g hmg
  refine law_call KX G.T.g G.T.b G.T.builtins G.T.nolimit hg hobj hints (Nat.le_trans hlen hn2) hr hF hb (fun H hO hS => ?_) fun H e s' z => ?_
  · refine ⟨H, (⟨ns⟩, ()), Ex.refl H, ⟨.ref a, [], rfl, ⟨a, ns.map V.int, rfl, hS, Reps.of_ints ns⟩, rfl⟩, ?_⟩
    show KE K _ H H [] _ (m ⟨ns⟩)
    rw [ht ns hlen hbits]
    exact fun v F' H' _ r => r
  · obtain ⟨_, _, _, _, _, _, _, _, _, _, _, _, z⟩ := z
    exact z
end Mi
set_option maxHeartbeats 1000000
namespace Mi
open PySem PySem.Spec L2
open Evl (Ex)
abbrev rLenS (K : PySem.W.Frag) : List V → Hp → VK → Prop := fun xs H Q => ∃ p ys, xs = [.ref p] ∧ (SqL K H p ys ∨ SqT K H p ys) ∧ Q (.int ys.length) H
theorem cr_len {X : Cx} {K : PySem.W.Frag} (h : X.K = K) : CallR X (.builtin "len") (rLenS K) := by
  subst h; exact call_len_seq
theorem cr_ixL {X : Cx} {K : PySem.W.Frag} (h : X.K = K) : IxR X (rIxL K) := by
  subst h; exact ix_list
theorem cr_ixT {X : Cx} {K : PySem.W.Frag} (h : X.K = K) : IxR X (rIxT K) := by
  subst h; exact ix_tup
theorem cr_slL {X : Cx} {K : PySem.W.Frag} (h : X.K = K) : SlR X (rSlL K) := by
  subst h; exact sl_list
section
variable {K : PySem.W.Frag} {W : WX} {F0 H0 F H F' H' F1 : Hp} {rt : VK} {PT : En → Prop} {env env' : En} {α β γ τ : Type} [ToD α] [ToD β] [ToD γ] [ToD τ] {KP : Res τ → Prop} {te ta tb tc : TE} {tt : TT} {Z : Ends} {t u : TS} {T : L2.St → Hp → Prop} {σ : L2.St}
/-- xs[::-1] -/
theorem en_rev {m : Res (List α)} (h : EvX K W env te m) : EvN K W env (tRevL K te) (m.bind fun xs => .ok xs.reverse) := fun F0 H0 F H σ Q S k => by
  refine h F0 H0 F H σ _ S ?_
  cases m with
  | ok xs =>
    intro v F1 H1 a r
    obtain ⟨p, vs, rfl, h1, h2⟩ := r
    refine ⟨p, vs, rfl, sq_ex a.in_ h1, fun l hl => ?_⟩
    refine k l _ F1 _ (a.trans (Adv.newO a.in_ hl)) (Evl.fresh_back a.h hl) (none_of_ex a.in_ hl) upd_same ?_
    rw [List.map_reverse]
    exact Reps.reverse h2
  | exc c => exact k
  | stuck => exact k.elim
/-- the parts of a text of an error -/
def EvJ (K : PySem.W.Frag) (W : WX) (env : En) (ts : List TE) (N : Nat) (m : Res Unit) : Prop :=
  ∀ F0 H0 F H σ acc (Q : Str → Hp → Prop), Sl K F0 H0 F H σ env → acc.length + N ≤ sizeLine → KE K W F H σ (fun _ H' => ∀ out, Q out H') m → tJs ts acc σ H Q
theorem ej_nil : EvJ K W env [] 0 (.ok ()) := fun F0 H0 F H σ acc Q S hn k => k .non F H (Adv.refl S.ex) rfl acc
theorem ej_txt {x : Str} {n N : Nat} {ts : List TE} {m : Res Unit} (hx : x.length ≤ n) (h : EvJ K W env ts N m) : EvJ K W env (tC (.str x) :: ts) (n + N) m := fun F0 H0 F H σ acc Q S hn k => by
  have e : (acc ++ x).length = acc.length + x.length := Str.length_append ..
  exact ⟨x, rfl, by omega, h F0 H0 F H σ (acc ++ x) Q S (by omega) k⟩
theorem ej_int {te : TE} {N : Nat} {ts : List TE} {m1 : Res Int} {m : Res Unit} (h1 : EvX K W env te m1) (h : EvJ K W env ts N m) : EvJ K W env (tFmt te :: ts) (1000 + N) (m1.bind fun i => .need (i.natAbs.log2 < 1920 ∧ (toString i : Str).length ≤ 1000) m) := fun F0 H0 F H σ acc Q S hn k => by
  refine h1 F0 H0 F H σ _ S (k.cut S.ex fun i v F1 H1 e1 a1 r1 k1 => ?_)
  have r1 : v = V.int i := r1
  subst r1
  by_cases q : i.natAbs.log2 < 1920 ∧ (toString i : Str).length ≤ 1000
  · rw [Res.need_pos q] at k1
    have e : (acc ++ toString i).length = acc.length + (toString i : Str).length := Str.length_append ..
    exact .inr ⟨i, rfl, q.1, toString i, rfl, by omega, h F0 H0 F1 H1 σ _ Q (S.step a1) (by omega) k1⟩
  · rw [Res.need_neg q] at k1; exact k1.elim
theorem blk_raiseJ {c : Str} {m : Res Unit} {ts : List TE} {N : Nat} (L : Lk K W F0 H0 rt PT KP) (hT : PT env) (hN : N ≤ sizeLine) (he : EvJ K W env ts N m) : Blk K F0 H0 KP (fun σ H => tJs ts Str.empty σ H fun _ H1 => W (.ref (He.ga K c)) none σ H1) env (m.bind fun _ => .exc c) := fun F H σ S h => by
  refine he F0 H0 F H σ _ _ S (by show 0 + N ≤ _; omega) (L.ke hT S h fun x v F1 H1 e1 a1 r1 h1 => ?_)
  exact fun _ => L.exc c F1 H1 σ env h1 hT (S.step a1)
end
end Mi
set_option maxHeartbeats 1000000
namespace Mi
open PySem PySem.Spec L2
open Evl (Ex)

/-! ### own classes: rules with what is raised at the caller's slots -/
section
variable {X : Cx} {CX : CXT} {k : Nat} {f C : Addr} {fd : FuncData} {ps : List Str} {sp : Sp} {E : L2.St → XK} {x m : Str} {p pos apos : Pos} {e o : Expr} {es : List Expr} {ta : TE} {t : TA}
def tMethQ (C : Addr) (m : Str) (sp : Sp) (E : L2.St → XK) (ta : TE) (t : TA) : TE := fun σ H Q => ta σ H fun x H1 => ∃ a dx fs, x = .ref a ∧ H1 a = some (.ins C dx fs) ∧ fs.lookup m = none ∧ t σ H1 fun vs H2 => sp (x :: vs) H2 Q (E σ)
theorem pe_methQ {pl : Sem Bool} (he : PE X o ta) (c : L2.Cls X.K C) (hm : Meth X.K C m f) (F : FnOk X.prog X.w X.K X.mg X.base CX k f fd ps sp) (hr : Room k X.A) (hb : Binds X.K fd ps []) (hx : ∀ σ, PassesAt CX X σ (E σ)) (ha : PA X (e :: es) t)
    (hst : starEach (e :: es) X.env = (false, eval e X.env) :: starEach es X.env := by rfl) (hpl : (backTo pos (starEach es X.env)).any (·.1) = false := by rfl)
    (ht : eval (.Call (.Attribute o m apos) (e :: es) [] pos) X.env = (do
      let ov ← eval o X.env
      standAt apos.atName
      let (f, first) ← holding [ov] (getMethod ov m pl)
      callWith pos f first (backTo pos (starEach (e :: es) X.env)) (backToKw pos (keywordEach [] X.env))) := by rfl) :
    PE X (.Call (.Attribute o m apos) (e :: es) [] pos) (tMethQ C m sp E ta t) := by
  refine ⟨fun pins s σ H Q I h => ?_⟩
  refine PySem.W.methodCall_KW (pl := pl) (thn (he.run pins s σ H _ I h) fun u s1 ⟨x, H1, I1, rx, a, dx, fs, ex, ea, l, q⟩ => ?_) ht
  subst ex
  obtain rfl : u = Value.ref a := rx
  refine getmeth_ok I1 ea c hm l ?_
  refine PySem.W.callWith_K (first := [.ref a]) (h₀ := X.base) I.ok.mod.kin hm.kp (thn (ha.run pos pins s1 σ H1 _ I1 q) fun us s2 ⟨vs, H2, I2, r, q2⟩ => ⟨I2.kIn, ?_⟩) hst hpl
  exact run_fnS (us := .ref a :: us) (vs := .ref a :: vs) F hr hb (hx σ) I2 (.cons rfl r) q2
theorem pe_methQ0 {pl : Sem Bool} (he : PE X o ta) (c : L2.Cls X.K C) (hm : Meth X.K C m f) (F : FnOk X.prog X.w X.K X.mg X.base CX k f fd ps sp) (hr : Room k X.A) (hb : Binds X.K fd ps []) (hx : ∀ σ, PassesAt CX X σ (E σ))
    (ht : eval (.Call (.Attribute o m apos) [] [] pos) X.env = (do
      let ov ← eval o X.env
      standAt apos.atName
      let (f, first) ← holding [ov] (getMethod ov m pl)
      callWith pos f first (backTo pos (starEach [] X.env)) (backToKw pos (keywordEach [] X.env))) := by rfl) :
    PE X (.Call (.Attribute o m apos) [] [] pos) (tMethQ C m sp E ta tNil) := by
  refine ⟨fun pins s σ H Q I h => ?_⟩
  refine PySem.W.methodCall_KW (pl := pl) (thn (he.run pins s σ H _ I h) fun u s1 ⟨x, H1, I1, rx, a, dx, fs, ex, ea, l, q⟩ => ?_) ht
  subst ex
  obtain rfl : u = Value.ref a := rx
  refine getmeth_ok I1 ea c hm l ?_
  exact PySem.W.callWith_K0 (first := [.ref a]) I1.kIn hm.kp (run_fnS (us := [.ref a]) (vs := [.ref a]) F hr hb (hx σ) I1 (.cons rfl .nil) q)
def tMakeQ (C : Addr) (sp : Sp) (E : L2.St → XK) (t : TA) : TE := fun σ H Q => t σ H fun vs H1 => ∀ x dx, H1 x = none → H1 dx = none → dx ≠ x → sp (.ref x :: vs) (upd (upd H1 dx (.own x)) x (.ins C dx [])) (fun v H2 => v = .non ∧ Q (.ref x) H2) (E σ)
theorem run_makeQ {pins : List (Addr × Obj)} {σ : L2.St} {H : Hp} {s : Shared} {Q : VK} {us : List Value} {vs : List V} (M : Mk X.K C f) (F : FnOk X.prog X.w X.K X.mg X.base CX k f fd ps sp) (hr : Room (k + 1) X.A) (hb : Binds X.K fd ps [])
    (hx : PassesAt CX X σ (E σ)) (I : Inv X pins σ H s) (r : Vals vs us)
    (h : ∀ x dx, H x = none → H dx = none → dx ≠ x → sp (.ref x :: vs) (upd (upd H dx (.own x)) x (.ins C dx [])) (fun v H2 => v = .non ∧ Q (.ref x) H2) (E σ)) :
    wpAny (model X.prog X.w) X.A (call (.ref C) us) (EP X pins σ Q) X.xe s := by
  have hq := h (s.heap.objs.size + 1) s.heap.objs.size (I.hok.fresh (Nat.le_succ _)) (I.hok.fresh (Nat.le_refl _)) (Nat.ne_of_lt (Nat.lt_succ_self _))
  have I2 := Inv.made (C := C) I
  have r2 : Vals (V.ref (s.heap.objs.size + 1) :: vs) (Value.ref (s.heap.objs.size + 1) :: us) := .cons rfl r
  have hl : (Value.ref (s.heap.objs.size + 1) :: us ++ []).length = ps.length := by
    rw [List.append_nil]
    have e := r2.length
    rw [F.len _ _ _ _ hq] at e
    exact e.symm
  have b := hb _ (Value.ref (s.heap.objs.size + 1) :: us) I2.kIn hl
  rw [List.append_nil] at b
  refine wpAny_call (make_map (f := f) I.kIn M.makes M.init (beq_iff_eq.mp M.fn) (codeAny_mono (F.run _ X.stack _ _ ⟨Value.ref (s.heap.objs.size + 1) :: us, []⟩ (Value.ref (s.heap.objs.size + 1) :: us) _ _ (E σ) (hr.make C us [])
    (I2.env0.make C us []) b r2 hq) fun r s' hq' => ?_))
  cases r with
  | error e => exact hx pins _ _ e s' I2 hq'
  | ok fl =>
    cases fl with
    | ret u =>
      obtain ⟨v, H', I3, rv, ev, q3⟩ := I2.after hq'
      subst ev
      exact ⟨rv, ⟨V.ref (s.heap.objs.size + 1), H', I3, rfl, q3⟩⟩
    | next => exact False.elim hq'
    | brk => exact False.elim hq'
    | cont => exact False.elim hq'
theorem pe_makeQ (M : Mk X.K C f) (F : FnOk X.prog X.w X.K X.mg X.base CX k f fd ps sp) (hr : Room (k + 1) X.A) (hg : Gl X x) (hm : X.mg x = some (.ref C)) (hb : Binds X.K fd ps []) (hx : ∀ σ, PassesAt CX X σ (E σ))
    (ha : PA X (e :: es) t) (hdb : (x == ("__debug__" : Str)) = false := by decide) (he : starEach (e :: es) X.env = (false, eval e X.env) :: starEach es X.env := by rfl) (hpl : (backTo pos (starEach es X.env)).any (·.1) = false := by rfl) :
    PE X (.Call (.Name x p) (e :: es) [] pos) (tMakeQ C sp E t) := by
  refine ⟨fun pins s σ H Q I h => ?_⟩
  refine wpAny_Call_Name_kw (ld_glob I hg hm ?_ hdb)
  refine PySem.W.callWith_K (h₀ := X.base) I.ok.mod.kin M.kp (thn (ha.run pos pins s σ H _ I h) fun us s1 ⟨vs, H1, I1, r, q⟩ => ⟨I1.kIn, ?_⟩) he hpl
  exact run_makeQ M F hr hb (hx σ) I1 r q
theorem pe_makeQ0 (M : Mk X.K C f) (F : FnOk X.prog X.w X.K X.mg X.base CX k f fd ps sp) (hr : Room (k + 1) X.A) (hg : Gl X x) (hm : X.mg x = some (.ref C)) (hb : Binds X.K fd ps []) (hx : ∀ σ, PassesAt CX X σ (E σ))
    (hdb : (x == ("__debug__" : Str)) = false := by decide) : PE X (.Call (.Name x p) [] [] pos) (tMakeQ C sp E tNil) := by
  refine ⟨fun pins s σ H Q I h => ?_⟩
  refine wpAny_Call_Name_kw (ld_glob I hg hm ?_ hdb)
  exact PySem.W.callWith_K0 I.kIn M.kp (run_makeQ (us := []) M F hr hb (hx σ) I .nil h)
end

/-! ### fields by their place -/
def posK (f : Str) : List Str → Option Nat
  | [] => none
  | g :: r => if g = f then some 0 else (posK f r).map (· + 1)
theorem lookup_pos {f : Str} {v : V} : ∀ {ks : List Str} {vs : List V} {j : Nat}, posK f ks = some j → vs[j]? = some v → (ks.zip vs).lookup f = some v
  | [], _, _, h, _ => by cases h
  | g :: r, [], j, h, q => by simp at q
  | g :: r, w :: ws, j, h, q => by
    unfold posK at h
    by_cases c : g = f
    · rw [if_pos c] at h; cases h
      simp at q; subst q c
      simp [List.zip_cons_cons, List.lookup]
    · rw [if_neg c] at h
      have c2 : (f == g) = false := beq_eq_false_iff_ne.mpr fun z => c z.symm
      cases e : posK f r with
      | none => rw [e] at h; cases h
      | some i =>
        rw [e] at h; cases h
        simp only [List.zip_cons_cons, List.lookup, c2]
        exact lookup_pos e (by simpa using q)
theorem lookup_no {f : Str} : ∀ {ks : List Str} {vs : List V}, posK f ks = none → (ks.zip vs).lookup f = none
  | [], _, _ => rfl
  | g :: r, [], _ => rfl
  | g :: r, w :: ws, h => by
    unfold posK at h
    by_cases c : g = f
    · rw [if_pos c] at h; cases h
    · rw [if_neg c] at h
      have c2 : (f == g) = false := beq_eq_false_iff_ne.mpr fun z => c z.symm
      simp only [List.zip_cons_cons, List.lookup, c2]
      refine lookup_no ?_
      cases e : posK f r with
      | none => rfl
      | some i => rw [e] at h; cases h
theorem putF_new {f : Str} {v : V} : ∀ {ks : List Str} {vs : List V}, posK f ks = none → ks.length = vs.length → putF f v (ks.zip vs) = (ks ++ [f]).zip (vs ++ [v])
  | [], [], _, _ => rfl
  | [], _ :: _, _, h => by simp at h
  | g :: r, [], _, h => by simp at h
  | g :: r, w :: ws, h, hl => by
    unfold posK at h
    by_cases c : g = f
    · rw [if_pos c] at h; cases h
    · rw [if_neg c] at h
      show (if g = f then _ else (g, w) :: putF f v (r.zip ws)) = _
      rw [if_neg c]
      rw [putF_new (ks := r) (vs := ws) (by cases e : posK f r with | none => rfl | some i => rw [e] at h; cases h) (by simpa using hl)]
      rfl
theorem putF_old {f : Str} {v : V} : ∀ {ks : List Str} {vs : List V} {j : Nat}, posK f ks = some j → ks.length = vs.length → putF f v (ks.zip vs) = ks.zip (vs.set j v)
  | [], _, _, h, _ => by cases h
  | g :: r, [], _, _, h => by simp at h
  | g :: r, w :: ws, j, h, hl => by
    unfold posK at h
    by_cases c : g = f
    · rw [if_pos c] at h; cases h
      show (if g = f then (g, v) :: r.zip ws else _) = _
      rw [if_pos c]; rfl
    · rw [if_neg c] at h
      cases e : posK f r with
      | none => rw [e] at h; cases h
      | some i =>
        rw [e] at h; cases h
        show (if g = f then _ else (g, w) :: putF f v (r.zip ws)) = _
        rw [if_neg c, putF_old e (by simpa using hl)]
        rfl
section
variable {K : PySem.W.Frag} {W : WX} {F0 H0 F H F' H' F1 : Hp} {rt : VK} {PT : En → Prop} {env env' : En} {α β γ τ : Type} [ToD α] [ToD β] [ToD γ] [ToD τ] {KP : Res τ → Prop} {te ta tb tc : TE} {tt : TT} {Z : Ends} {t u : TS} {T : L2.St → Hp → Prop} {σ : L2.St}
/-- e.f, e an object that stands still -/
theorem ev_fld {m : Res α} {g : α → β} {c f : Str} {ks : List Str} {j : Nat} (he : EvX K W env te m) (hc : L2.Cls K (He.ga K c)) (hn : NoAttr K (He.ga K c) f) (hj : posK f ks = some j) (hf : ∀ x : α, ∃ ds, toD x = .obj c ks ds ∧ ds[j]? = some (toD (g x))) :
    EvX K W env (tFld K te f) (m.bind fun x => .ok (g x)) := fun F0 H0 F H σ Q S k => by
  refine he F0 H0 F H σ _ S (KE.cut S.ex k fun x v F1 H1 e1 a1 r1 k1 => ?_)
  obtain ⟨ds, e, q⟩ := hf x
  rw [e] at r1
  obtain ⟨a, dx, vs, rfl, h2, h3, h4⟩ := r1
  obtain ⟨w, hw, rw_⟩ := Reps.get h4 q
  exact ⟨a, _, dx, _, w, rfl, a1.in_ _ _ h2, hc, hn, lookup_pos hj hw, k1 _ F1 H1 (Adv.refl a1.in_) rw_⟩
/-- self.f, self an object that is being made -/
theorem ev_fldO {x : α} {c f : Str} {pp : Option Addr} {ks : List Str} {ds : List D} {i j : Nat} (hi : env[i]? = some (some (.oi pp c ks ds))) (hc : L2.Cls K (He.ga K c)) (hn : NoAttr K (He.ga K c) f) (hj : posK f ks = some j) (hd : ds[j]? = some (toD x)) :
    EvX K W env (tFld K (tVar i) f) (.ok x) := fun F0 H0 F H σ Q S k => by
  obtain ⟨v, e, p, dx, vs, rfl, h0, hf, hp, hl, hr, _⟩ := S.slot i _ hi
  obtain ⟨w, hw, rw_⟩ := Reps.get hr hd
  exact ⟨_, e, p, _, dx, _, w, rfl, hp, hc, hn, lookup_pos hj hw, k _ F H (Adv.refl S.ex) rw_⟩
/-- self.f = e, a new field -/
theorem blk_fldN {i : Nat} {m : Res α} {g : α → Res τ} {c f : Str} {pp : Option Addr} {ks : List Str} {ds : List D} (L : Lk K W F0 H0 rt PT KP) (hT : PT env) (he : EvX K W env te m) (hi : env[i]? = some (some (.oi pp c ks ds))) (hc : L2.Cls K (He.ga K c)) (hn : NoAttr K (He.ga K c) f) (hj : posK f ks = none) (hk : ks.length < 1000)
    (k : ∀ x, Blk K F0 H0 KP Z.nx (env.set i (some (.oi pp c (ks ++ [f]) (ds ++ [toD x])))) (g x)) : Blk K F0 H0 KP (sFld K (tVar i) te f Z) env (m.bind g) := fun F H σ S h =>
  he F0 H0 F H σ _ S (L.ke hT S h fun x v F1 H1 e1 a1 r1 h1 => by
    have S1 := S.step a1
    obtain ⟨w, e, p, dx, vs, rfl, h0, hf, hp, hl, hr, hpp⟩ := S1.slot i _ hi
    refine ⟨_, e, p, _, dx, _, rfl, hp, hc, hn, by rw [List.length_zip, ← hl, Nat.min_self]; exact hk, ?_⟩
    refine k x F1 _ σ (S1.chgO hi rfl e hf h0 ⟨p, dx, vs ++ [v], rfl, h0, hf, ?_, by simp [hl], Reps.append hr (Reps.one r1), hpp⟩) h1
    rw [upd_same, putF_new hj hl])
/-- self.f = e, a field that is there -/
theorem blk_fldR {i j : Nat} {m : Res α} {g : α → Res τ} {c f : Str} {pp : Option Addr} {ks : List Str} {ds : List D} (L : Lk K W F0 H0 rt PT KP) (hT : PT env) (he : EvX K W env te m) (hi : env[i]? = some (some (.oi pp c ks ds))) (hc : L2.Cls K (He.ga K c)) (hn : NoAttr K (He.ga K c) f) (hj : posK f ks = some j) (hk : ks.length < 1000)
    (k : ∀ x, Blk K F0 H0 KP Z.nx (env.set i (some (.oi pp c ks (ds.set j (toD x))))) (g x)) : Blk K F0 H0 KP (sFld K (tVar i) te f Z) env (m.bind g) := fun F H σ S h =>
  he F0 H0 F H σ _ S (L.ke hT S h fun x v F1 H1 e1 a1 r1 h1 => by
    have S1 := S.step a1
    obtain ⟨w, e, p, dx, vs, rfl, h0, hf, hp, hl, hr, hpp⟩ := S1.slot i _ hi
    refine ⟨_, e, p, _, dx, _, rfl, hp, hc, hn, by rw [List.length_zip, ← hl, Nat.min_self]; exact hk, ?_⟩
    refine k x F1 _ σ (S1.chgO hi rfl e hf h0 ⟨p, dx, vs.set j v, rfl, h0, hf, ?_, by simp [hl], Reps.set j hr r1, hpp⟩) h1
    rw [upd_same, putF_old hj hl])
/-- o.m(e, ..), o an object that stands still -/
theorem ev_meth {δ : Type} [ToDs δ] {ts : TA} {mo : Res α} {ma : Res δ} {c m : Str} {ks : List Str} {f : α × δ → Res β} (ho : EvX K W env te mo) (ha : EvA K W env ts ma) (hj : posK m ks = none) (hf : ∀ x : α, ∃ ds, toD x = .obj c ks ds) :
    EvX K W env (tMethQ (He.ga K c) m (spM K f) (WE W) te ts) (mo.bind fun x => ma.bind fun y => f (x, y)) := fun F0 H0 F H σ Q S k => by
  refine ho F0 H0 F H σ _ S (KE.cut S.ex k fun x v F1 H1 e1 a1 r1 k1 => ?_)
  obtain ⟨ds, e⟩ := hf x
  have r1' := r1
  rw [e] at r1
  obtain ⟨a, dx, vs, rfl, h2, h3, h4⟩ := r1
  refine ⟨a, dx, _, rfl, a1.in_ _ _ h2, lookup_no hj, ?_⟩
  refine ha F0 H0 F1 H1 σ _ (S.step a1) ?_
  cases ma with
  | ok y =>
    intro ws F2 H2 a2 r2
    have k1 : KE K W F1 H1 σ Q (f (x, y)) := k1
    have k1 := k1.adv a2
    refine ⟨F2, (x, y), a2.in_, ⟨_, ws, rfl, Rep.mono a2.f _ _ r1', r2⟩, ?_⟩
    revert k1
    generalize f (x, y) = z
    intro k1
    cases z with
    | ok z => exact k1
    | exc c => exact k1
    | stuck => exact k1.elim
  | exc c => exact k1
  | stuck => exact k1.elim
theorem ev_meth0 {δ : Type} [ToDs δ] {ts : TA} {mo : Res α} {ma : Res δ} {c m : Str} {ks : List Str} {f : α × δ → Res β} (ho : EvX K W env te mo) (ha : EvA K W env ts ma) (hj : posK m ks = none) (hf : ∀ x : α, ∃ ds, toD x = .obj c ks ds) :
    EvX K W env (tMeth (He.ga K c) m (spM K f) [] E0 te ts) (mo.bind fun x => ma.bind fun y => (f (x, y)).noexc) := fun F0 H0 F H σ Q S k => by
  refine ho F0 H0 F H σ _ S (KE.cut S.ex k fun x v F1 H1 e1 a1 r1 k1 => ?_)
  obtain ⟨ds, e⟩ := hf x
  have r1' := r1
  rw [e] at r1
  obtain ⟨a, dx, vs, rfl, h2, h3, h4⟩ := r1
  refine ⟨a, dx, _, rfl, a1.in_ _ _ h2, lookup_no hj, ?_⟩
  refine ha F0 H0 F1 H1 σ _ (S.step a1) ?_
  cases ma with
  | ok y =>
    intro ws F2 H2 a2 r2
    have k1 : KE K W F1 H1 σ Q (f (x, y)).noexc := k1
    have k1 := k1.adv a2
    refine ⟨F2, (x, y), a2.in_, by rw [List.append_nil]; exact ⟨_, ws, rfl, Rep.mono a2.f _ _ r1', r2⟩, ?_⟩
    revert k1
    generalize f (x, y) = z
    intro k1
    cases z with
    | ok z => exact k1
    | exc c => exact k1.elim
    | stuck => exact k1.elim
  | exc c => exact k1
  | stuck => exact k1.elim
/-- the heap without an object that a def changes -/
def hide (H : Hp) (p : Addr) : Hp := fun q => if q = p then none else H q
theorem hide_same {H : Hp} {p : Addr} : hide H p p = none := if_pos rfl
theorem hide_ne {H : Hp} {p q : Addr} (h : q ≠ p) : hide H p q = H q := if_neg h
theorem hide_ex {H : Hp} {p : Addr} : Ex (hide H p) H := fun a u q => by
  by_cases z : a = p
  · subst z; rw [hide_same] at q; cases q
  · rw [hide_ne z] at q; exact q
/-- the promise of an __init__ -/
def KIn (K : PySem.W.Frag) (F H : Hp) (p : Addr) (Q : VK) (E : XK) : Res α → Prop
  | .ok x => ∀ F' H', Adv F (hide H p) F' H' → Rep K F' (toD x) (.ref p) → Q .non H'
  | .exc c => ∀ F' H', Adv F (hide H p) F' H' → E (.ref (He.ga K c)) none H'
  | .stuck => False
def spI (K : PySem.W.Frag) (c : Str) {δ : Type} [ToDs δ] (f : δ → Res α) : Sp := fun vs H Q E => ∃ F y p dx ws, vs = .ref p :: ws ∧ Ex F H ∧ F p = none ∧ H p = some (.ins (He.ga K c) dx []) ∧ Reps K F (ToDs.ds y) ws ∧ KIn K F H p Q E (f y)
theorem ev_make {δ : Type} [ToDs δ] {ts : TA} {ma : Res δ} {c : Str} {f : δ → Res α} (ha : EvA K W env ts ma) : EvX K W env (tMakeQ (He.ga K c) (spI K c f) (WE W) ts) (ma.bind f) := fun F0 H0 F H σ Q S k => by
  refine ha F0 H0 F H σ _ S ?_
  cases ma with
  | ok y =>
    intro vs F1 H1 a1 r1 x dx nx ndx hne
    have k : KE K W F H σ Q (f y) := k
    have k := k.adv a1
    have ex1 : Ex H1 (hide (upd (upd H1 dx (.own x)) x (.ins (He.ga K c) dx [])) x) := fun a u q => by
      have z : a ≠ x := ne_of_none q nx
      rw [hide_ne z, upd_ne z, upd_ne (ne_of_none q ndx)]
      exact q
    have exF : Ex F1 (upd (upd H1 dx (.own x)) x (.ins (He.ga K c) dx [])) := fun a u q => hide_ex _ _ (ex1 _ _ (a1.in_ _ _ q))
    have ad : ∀ {F' H' : Hp}, Adv F1 (hide (upd (upd H1 dx (.own x)) x (.ins (He.ga K c) dx [])) x) F' H' → Adv F1 H1 F' H' := fun {F' H'} b =>
      ⟨b.f, ex1.trans b.h, b.in_, fun q h1 h2 => b.out q h1 (by
        cases e : H1 q with
        | none => exact absurd e h2
        | some o => rw [ex1 _ _ e]; simp)⟩
    refine ⟨F1, y, x, dx, vs, rfl, exF, none_of_ex a1.in_ nx, upd_same, r1, ?_⟩
    revert k
    generalize f y = z
    intro k
    cases z with
    | ok z => exact fun F' H' b r => ⟨rfl, k _ F' H' (ad b) r⟩
    | exc c => exact fun F' H' b => k F' H' (ad b)
    | stuck => exact k.elim
  | exc c => exact k
  | stuck => exact k.elim
/-- the end of an __init__ -/
theorem blk_finI {Q : VK} {x : τ} {p : Addr} {c : Str} {ks : List Str} {ds : List D} {i : Nat} (L : Lk K W F0 H0 (fun v H' => v = .ref p → Q .non H') PT KP) (hi : env[i]? = some (some (.oi (some p) c ks ds))) (hx : toD x = .obj c ks ds) : Blk K F0 H0 KP (fun _ H' => Q .non H') env (.ok x) := fun F H σ S h => by
  obtain ⟨v, e, q, dx, vs, rfl, h0, hf, hp, hl, hr, hpp⟩ := S.slot i _ hi
  have : q = p := hpp p rfl
  subst this
  obtain ⟨F', ex, S'⟩ := S.freezeI hi
  have hi' : i < env.length := by
    have := (List.getElem?_eq_some_iff.mp hi).1
    exact this
  obtain ⟨v2, e2, r2⟩ := S'.slot i (.im (.obj c ks ds)) (by rw [List.getElem?_set_self hi'])
  rw [e] at e2; cases e2
  exact L.ok x h (.ref q) F' H S'.adv (by rw [hx]; exact r2) rfl
end
section
variable {P : Program} {w : World} {K : PySem.W.Frag} {mg : Str → Option Value} {base : Heap} {x qual : Str} {params : Arguments} {body : List Stmt} {scope : Scope} {dvs : List V} {kws : List (Str × V)} {f : Addr} {fd : FuncData}
theorem sl_startI {K : PySem.W.Frag} {F H : Hp} {N : List Str} {ds : List D} {vs : List V} {p dx : Addr} {c : Str} {n0 : Str} (e : Ex F H) (hf : F p = none) (hp : H p = some (.ins (He.ga K c) dx [])) (r : Reps K F ds vs) :
    Sl K F (hide H p) F H (L2.start (n0 :: N) (.ref p :: vs)) (some (.oi (some p) c [] []) :: enStart N ds) := by
  have hl := r.length
  refine ⟨⟨Ex.refl F, hide_ex, e, fun q h _ => h⟩, fun i sk q => ?_, fun i j sk sk' a hij q q' o o' h1 => ?_, by simp [L2.start, enStart, hl]⟩
  · cases i with
    | zero =>
      simp at q; subst q
      exact ⟨.ref p, by simp [L2.start], p, dx, [], rfl, hide_same, hf, hp, rfl, rfl, fun a h => Option.some.inj h⟩
    | succ i =>
      have q : (enStart N ds)[i]? = some (some sk) := by simpa using q
      unfold enStart at q
      by_cases c : i < ds.length
      · rw [List.getElem?_append_left (by simpa using c), List.getElem?_map, List.getElem?_eq_getElem c] at q
        cases q
        obtain ⟨v, h1, h2⟩ := r.get (List.getElem?_eq_getElem c)
        refine ⟨v, ?_, h2⟩
        unfold L2.start
        rw [List.getElem?_append_left (by simp only [List.map_cons, List.length_cons, List.length_map]; omega), List.getElem?_map, List.getElem?_cons_succ, h1]; rfl
      · rw [List.getElem?_append_right (by simpa using c), List.getElem?_replicate] at q
        split at q <;> cases q
  · have im : ∀ (i : Nat) (sk : Sk), (some (Sk.oi (some p) c [] []) :: enStart N ds)[i]? = some (some sk) → sk.own = true → i = 0 := by
      intro i sk q o
      cases i with
      | zero => rfl
      | succ i =>
        have q : (enStart N ds)[i]? = some (some sk) := by simpa using q
        unfold enStart at q
        by_cases c : i < ds.length
        · rw [List.getElem?_append_left (by simpa using c), List.getElem?_map, List.getElem?_eq_getElem c] at q
          cases q; cases o
        · rw [List.getElem?_append_right (by simpa using c), List.getElem?_replicate] at q
          split at q <;> cases q
    exact absurd ((im i sk q o).trans (im j sk' q' o').symm) hij
theorem fn_okI {N ps : List Str} {n0 : Str} {k : Nat} {β τ : Type} [ToDs β] [ToD τ] {fM : β → Res τ} {c : Str} (F : FunD K x qual params body scope dvs kws f fd) (S : FnScope (n0 :: N) ps scope) (hl : ∀ y : β, (ToDs.ds y).length + 1 = ps.length)
    (hbody : ∀ (cdv : Value) (A : Around) (outer : List Env) (s : Shared) (H : Hp) (E : XK), Room k (A.deeper (PyProof.Rows.envOfC qual scope s.heap.objs.size f cdv)) →
      ∃ t, PSs (cxOf (L2.CX P w) P w K mg base (n0 :: N) qual scope f cdv A outer s H E) body t ∧
        ∀ (y : β) (p : Addr) (F0 H0 : Hp) (Q : VK) (KP : Res τ → Prop), Lk K (fun cls d _ H => E cls d H) F0 H0 (fun v H' => v = .ref p → Q .non H') (fun _ => True) KP → Blk K F0 H0 KP (t { nx := fun _ H' => Q .non H', rt := Q }) (some (.oi (some p) c [] []) :: enStart N (ToDs.ds y)) (fM y)) :
    FnOk P w K mg base (L2.CX P w) (k + 1) f fd ps (spI K c fM) := by
  refine F.ok S (fun vs H Q E h => ?_) (fun cdv A outer s H vs Q E hr h => ?_)
  · obtain ⟨F, y, p, dx, ws, rfl, _, _, _, r, _⟩ := h
    rw [← hl y, List.length_cons, ← r.length]
  · obtain ⟨t, h1, h2⟩ := hbody cdv A outer s H E hr
    refine ⟨t, h1, ?_⟩
    obtain ⟨F, y, p, dx, ws, rfl, e, hf, hp, r, q⟩ := h
    refine h2 y p F (hide H p) Q (fun r => KIn K F H p Q E r) ⟨fun z h v F' H' a r z => ?_, fun c F' H' σ env h _ S' => h F' H' S'.adv, fun z => z⟩ F H _ (sl_startI e hf hp r) q
    subst z
    exact h F' H' a r
end
end Mi
namespace Mi
open PySem PySem.Spec L2
open Evl (Ex)
structure T5 (α β γ δ ε : Type) where
  a : α
  b : β
  c : γ
  e : δ
  f : ε
structure T6 (α β γ δ ε ζ : Type) where
  a : α
  b : β
  c : γ
  e : δ
  f : ε
  g : ζ
structure T8 (α β γ δ ε ζ η θ : Type) where
  a : α
  b : β
  c : γ
  e : δ
  f : ε
  g : ζ
  h : η
  i : θ
instance {α β γ δ ε : Type} [ToD α] [ToD β] [ToD γ] [ToD δ] [ToD ε] : ToD (T5 α β γ δ ε) := ⟨fun x => .tup [ToD.d x.a, ToD.d x.b, ToD.d x.c, ToD.d x.e, ToD.d x.f]⟩
instance {α β γ δ ε ζ : Type} [ToD α] [ToD β] [ToD γ] [ToD δ] [ToD ε] [ToD ζ] : ToD (T6 α β γ δ ε ζ) := ⟨fun x => .tup [ToD.d x.a, ToD.d x.b, ToD.d x.c, ToD.d x.e, ToD.d x.f, ToD.d x.g]⟩
instance {α β γ δ ε ζ η θ : Type} [ToD α] [ToD β] [ToD γ] [ToD δ] [ToD ε] [ToD ζ] [ToD η] [ToD θ] : ToD (T8 α β γ δ ε ζ η θ) := ⟨fun x => .tup [ToD.d x.a, ToD.d x.b, ToD.d x.c, ToD.d x.e, ToD.d x.f, ToD.d x.g, ToD.d x.h, ToD.d x.i]⟩
def optGet {α : Type} : Option α → Res α
  | some x => .ok x
  | none => .stuck
theorem optGet_ok {α : Type} [ToD α] : ∀ (x : Option α) (y : α), optGet x = .ok y → toD y = toD x
  | some x, y, h => by cases h; rfl
  | none, y, h => by cases h
theorem optGet_x {α : Type} : ∀ (x : Option α) (c : Str), optGet x ≠ .exc c
  | some x, c, h => by cases h
  | none, c, h => by cases h
def D.asT1 : D → Res (T1 D)
  | .tup [a] => .ok ⟨a⟩
  | _ => .stuck
def D.asT2 : D → Res (T2 D D)
  | .tup [a, b] => .ok ⟨a, b⟩
  | _ => .stuck
def D.asT3 : D → Res (T3 D D D)
  | .tup [a, b, c] => .ok ⟨a, b, c⟩
  | _ => .stuck
theorem asT1_ok : ∀ (x : D) (y : T1 D), x.asT1 = .ok y → toD y = x := by
  intro x y h
  unfold D.asT1 at h
  split at h
  · cases h; rfl
  · cases h
theorem asT2_ok : ∀ (x : D) (y : T2 D D), x.asT2 = .ok y → toD y = x := by
  intro x y h
  unfold D.asT2 at h
  split at h
  · cases h; rfl
  · cases h
theorem asT3_ok : ∀ (x : D) (y : T3 D D D), x.asT3 = .ok y → toD y = x := by
  intro x y h
  unfold D.asT3 at h
  split at h
  · cases h; rfl
  · cases h
theorem asT1_x (x : D) (c : Str) : x.asT1 ≠ .exc c := by intro h; unfold D.asT1 at h; split at h <;> cases h
theorem asT2_x (x : D) (c : Str) : x.asT2 ≠ .exc c := by intro h; unfold D.asT2 at h; split at h <;> cases h
theorem asT3_x (x : D) (c : Str) : x.asT3 ≠ .exc c := by intro h; unfold D.asT3 at h; split at h <;> cases h
def D.lenR : D → Res Int
  | .tup xs => .ok (xs.length : Int)
  | .lst xs => .ok (xs.length : Int)
  | _ => .stuck
section
variable {K : PySem.W.Frag} {W : WX} {F0 H0 F H F' H' F1 : Hp} {rt : VK} {PT : En → Prop} {env env' : En} {α β γ τ : Type} [ToD α] [ToD β] [ToD γ] [ToD τ] {KP : Res τ → Prop} {te ta tb tc : TE} {tt : TT} {Z : Ends} {t u : TS} {T : L2.St → Hp → Prop} {σ : L2.St}
theorem ev_castG {m : Res α} {f : α → Res β} (hf : ∀ x y, f x = .ok y → toD y = toD x) (hx : ∀ x c, f x ≠ .exc c) (h : EvX K W env te m) : EvX K W env te (m.bind f) := fun F0 H0 F H σ Q S k => by
  refine h F0 H0 F H σ _ S ?_
  cases m with
  | ok x =>
    intro v F1 H1 a r
    have k : KE K W F H σ Q (f x) := k
    cases e : f x with
    | ok y => rw [e] at k; exact k v F1 H1 a (by rw [hf x y e]; exact r)
    | exc c => exact absurd e (hx x c)
    | stuck => rw [e] at k; exact k.elim
  | exc c => exact k
  | stuck => exact k.elim
theorem ev_lenD {m : Res D} (h : EvX K W env te m) : EvX K W env (tCB (rLenS K) (tCons te tNil)) (m.bind fun x => D.lenR x) := fun F0 H0 F H σ Q S k => by
  refine h F0 H0 F H σ _ S (KE.cut S.ex k fun x v F1 H1 e1 a1 r1 k1 => ?_)
  have k1 : KE K W F1 H1 σ Q (D.lenR x) := k1
  cases x with
  | tup xs =>
    obtain ⟨a, vs, rfl, h2, h3⟩ := r1
    refine ⟨a, vs, rfl, .inr (Evl.ex_t a1.in_ h2), ?_⟩
    have := k1 (.int xs.length) F1 H1 (Adv.refl a1.in_) rfl
    rw [← h3.length]; exact this
  | lst xs =>
    obtain ⟨a, vs, rfl, h2, h3⟩ := r1
    refine ⟨a, vs, rfl, .inl (sq_ex a1.in_ h2), ?_⟩
    have := k1 (.int xs.length) F1 H1 (Adv.refl a1.in_) rfl
    rw [← h3.length]; exact this
  | _ => exact k1.elim
theorem cx_lenTu : CrX K (rLenS K) (fun (p : Tu α × Unit) => .ok (p.1.xs.length : Int)) := fun F H x vs Q e r k => by
  obtain ⟨v, rs, rfl, r1, r2⟩ := r
  cases (show rs = [] from r2)
  obtain ⟨a, ws, rfl, h2, h3⟩ := r1
  refine ⟨a, ws, rfl, .inr (Evl.ex_t e h2), ?_⟩
  have := k (.int x.1.xs.length) F H (Adv.refl e) rfl
  rw [← h3.length, List.length_map]; exact this
end
end Mi
set_option maxHeartbeats 1000000
namespace Mi
open PySem PySem.Spec L2
open Evl (Ex)
def CPowX (i j : Int) : Prop := 0 ≤ j ∧ (Builtin.Int.intBits i : Int) * j ≤ 2 ^ 27
theorem op_powX {X : Cx} : OpR X (binaryOp .Pow) (rI CPowX fun i j => .int (i ^ j.toNat)) := opI fun _ _ _ _ _ _ _ hc q => PyProof.Rows.pow_int hc.1 hc.2 q
end Mi
namespace Mi
open PySem PySem.Spec L2
/-- a promise of nothing -/
theorem fnok_stuck {P : Program} {w : World} {K : PySem.W.Frag} {mg : Str → Option Value} {base : Heap} {k : Nat} {f : Addr} {fd : FuncData} {ps : List Str} {β τ : Type} [ToDs β] [ToD τ] (fM : β → Res τ) (h : ∀ y, fM y = .stuck) : FnOk P w K mg base (L2.CX P w) k f fd ps (spM K fM) := by
  have no : ∀ vs H Q E, ¬ spM K fM vs H Q E := by
    rintro vs H Q E ⟨F, x, _, _, q⟩
    rw [h x] at q
    exact q
  exact ⟨fun vs H Q E q => absurd q (no _ _ _ _), fun A outer s H args us vs Q E _ _ _ _ q => absurd q (no _ _ _ _)⟩
end Mi
set_option maxHeartbeats 1000000
namespace Mi
open PySem PySem.Spec L2
open Evl (Ex)
structure T7 (α β γ δ ε ζ η : Type) where
  a : α
  b : β
  c : γ
  e : δ
  f : ε
  g : ζ
  h : η
instance {α β γ δ ε ζ η : Type} [ToD α] [ToD β] [ToD γ] [ToD δ] [ToD ε] [ToD ζ] [ToD η] : ToD (T7 α β γ δ ε ζ η) := ⟨fun x => .tup [ToD.d x.a, ToD.d x.b, ToD.d x.c, ToD.d x.e, ToD.d x.f, ToD.d x.g, ToD.d x.h]⟩

/-! ### the module's constants -/
def tupB (K : PySem.W.Frag) (a : Addr) : Option (List Value) := match K.lookup a with
  | some o => match o.data with
    | .seq its n => if o.cls = .type "tuple" ∧ its.size ≤ sizeLine then some its.toList else none
    | _ => none
  | none => none
mutual
def repB (K : PySem.W.Frag) : D → Value → Bool
  | .non, u => decide (u = .none)
  | .bl b, u => decide (u = .bool b)
  | .int i, .int j _ => decide (j = i)
  | .str s, .str z _ => decide (z = s)
  | .ty n, u => decide (u = .type n)
  | .tup ds, .ref a => (match tupB K a with
    | some us => repsB K ds us
    | none => false)
  | _, _ => false
def repsB (K : PySem.W.Frag) : List D → List Value → Bool
  | [], us => us.isEmpty
  | d :: ds, u :: us => repB K d u && repsB K ds us
  | _ :: _, [] => false
end
theorem tupB_ok {K : PySem.W.Frag} {a : Addr} {us : List Value} (h : tupB K a = some us) {xs : List V} (r : Vals xs us) (F : Hp) : SqT K F a xs := by
  unfold tupB at h
  split at h
  · rename_i o e
    split at h
    · rename_i its n ed
      split at h
      · rename_i hc
        cases h
        exact .inr ⟨o, its, n, e, hc.1, ed, hc.2, r⟩
      · cases h
    · cases h
  · cases h
mutual
theorem repB_ok {K : PySem.W.Frag} : ∀ (d : D) (u : Value), repB K d u = true → ∃ v, RelV v u ∧ ∀ F, Rep K F d v
  | .non, u, h => ⟨.non, (of_decide_eq_true (show decide (u = Value.none) = true from h) : u = Value.none), fun _ => rfl⟩
  | .bl b, u, h => ⟨.bl b, (of_decide_eq_true (show decide (u = Value.bool b) = true from h) : u = Value.bool b), fun _ => rfl⟩
  | .ty n, u, h => ⟨.ty n, (of_decide_eq_true (show decide (u = Value.type n) = true from h) : u = Value.type n), fun _ => rfl⟩
  | .int i, u, h => by
    cases u with
    | int j t => exact ⟨.int i, ⟨t, by rw [of_decide_eq_true (show decide (j = i) = true from h)]⟩, fun _ => rfl⟩
    | _ => cases h
  | .str s, u, h => by
    cases u with
    | str z t => exact ⟨.str s, ⟨t, by rw [of_decide_eq_true (show decide (z = s) = true from h)]⟩, fun _ => rfl⟩
    | _ => cases h
  | .tup ds, u, h => by
    cases u with
    | ref a =>
      rw [repB] at h
      split at h
      · rename_i us e
        obtain ⟨xs, r, hr⟩ := repsB_ok ds us h
        exact ⟨.ref a, rfl, fun F => ⟨a, xs, rfl, tupB_ok e r F, hr F⟩⟩
      · cases h
    | _ => cases h
  | .lst ds, u, h => by cases u <;> cases h
  | .obj c ks ds, u, h => by cases u <;> cases h
  | .ro ds, u, h => by cases u <;> cases h
theorem repsB_ok {K : PySem.W.Frag} : ∀ (ds : List D) (us : List Value), repsB K ds us = true → ∃ xs, Vals xs us ∧ ∀ F, Reps K F ds xs
  | [], us, h => by
    cases us with
    | nil => exact ⟨[], .nil, fun _ => rfl⟩
    | cons u us => cases h
  | d :: ds, us, h => by
    cases us with
    | nil => cases h
    | cons u us =>
      rw [repsB] at h
      obtain ⟨h1, h2⟩ := He.ba h
      obtain ⟨v, r, hv⟩ := repB_ok d u h1
      obtain ⟨xs, rs, hx⟩ := repsB_ok ds us h2
      exact ⟨v :: xs, .cons r rs, fun F => ⟨v, xs, rfl, hv F, hx F⟩⟩
end
def conB (K : PySem.W.Frag) (cs : List (Str × D)) : Bool := cs.all fun c => match PySem.W.nsIn K mainGlobals c.1 with
  | some (some u) => repB K c.2 u
  | _ => false
/-- a name of the module that stands for data -/
def ConF (K : PySem.W.Frag) (mg : Str → Option Value) (x : Str) (d : D) : Prop := ∃ u v, mg x = some u ∧ RelV v u ∧ ∀ F, Rep K F d v
theorem con_of {K : PySem.W.Frag} {h : Heap} {mg : Str → Option Value} {cs : List (Str × D)} (X : K.In h) (G : h.Ns mainGlobals mg) (c : conB K cs = true) {x : Str} {d : D} (m : (x, d) ∈ cs) : ConF K mg x d := by
  have q := List.all_eq_true.mp c _ m
  dsimp only at q
  split at q
  · rename_i u e
    obtain ⟨v, r, hv⟩ := repB_ok d u q
    exact ⟨u, v, PySem.W.mg_of X G e, r, hv⟩
  · cases q
section
variable {K : PySem.W.Frag} {mg : Str → Option Value} {x : Str} {d : D}
noncomputable def ConF.u (h : ConF K mg x d) : Value := h.choose
noncomputable def ConF.v (h : ConF K mg x d) : V := h.choose_spec.choose
theorem ConF.m (h : ConF K mg x d) : mg x = some h.u := h.choose_spec.choose_spec.1
theorem ConF.r (h : ConF K mg x d) : RelV h.v h.u := h.choose_spec.choose_spec.2.1
theorem ConF.p (h : ConF K mg x d) (F : Hp) : Rep K F d h.v := h.choose_spec.choose_spec.2.2 F
theorem ev_con {α : Type} [ToD α] {W : WX} {env : En} {z : α} (h : ConF K mg x (toD z)) : EvX K W env (tC h.v) (.ok z) := fun F0 H0 F H σ Q S k => k _ F H (Adv.refl S.ex) (h.p F)
end
/-! ### is True, is False -/
theorem opx_isB {K : PySem.W.Frag} : OpX K rIsB (fun (i j : Bool) => .ok (decide (i = j))) := fun F H x y v u Q e h1 h2 k => by
  cases (show v = V.bl x from h1); cases (show u = V.bl y from h2)
  exact ⟨x, y, rfl, rfl, k _ F H (Adv.refl e) rfl⟩
theorem opx_notB {K : PySem.W.Frag} : OpX K rNotB (fun (i j : Bool) => .ok (!decide (i = j))) := fun F H x y v u Q e h1 h2 k => by
  cases (show v = V.bl x from h1); cases (show u = V.bl y from h2)
  exact ⟨x, y, rfl, rfl, k _ F H (Adv.refl e) rfl⟩
theorem ev_isET3 {K : PySem.W.Frag} {W : WX} {env : En} {cs : List Str} {sub : Str → Str → Bool} {c x y z : Str} {i : Nat} {a : Addr} (C : Cls K cs sub) (hc : c ∈ cs) (hx : x ∈ cs) (hy : y ∈ cs) (hz : z ∈ cs) (h : env[i]? = some (some (.raw (.ref a)))) :
    EvX K W env (tCB (rIsET K a (.ref (He.ga K c)) none) (tCons (tVar i) (tCons (tTup (tCons (tC (.ref (He.ga K x))) (tCons (tC (.ref (He.ga K y))) (tCons (tC (.ref (He.ga K z))) tNil)))) tNil))) (.ok ([x, y, z].any (sub c))) := fun F0 H0 F H σ Q S k => by
  obtain ⟨v, e, q⟩ := S.slot i _ h
  cases (show v = V.ref a from q)
  refine ⟨_, e, by show 3 ≤ sizeLine; decide, fun p hp => ?_⟩
  have a2 : Adv F H (upd F p (.tup [.ref (He.ga K x), .ref (He.ga K y), .ref (He.ga K z)])) (upd H p (.tup [.ref (He.ga K x), .ref (He.ga K y), .ref (He.ga K z)])) := Adv.new S.ex hp
  refine ⟨He.ga K c, p, [.ref (He.ga K x), .ref (He.ga K y), .ref (He.ga K z)], [.ref (He.ga K x), .ref (He.ga K y), .ref (He.ga K z)], [x, y, z].any (sub c), rfl, rfl, C.exc c hc, rfl, upd_same, (.cons (.own _) (.cons (.own _) (.cons (.own _) .nil))), ?_, k _ _ _ a2 rfl⟩
  exact kit_any C hc (xs := [x, y, z]) (by simp [hx, hy, hz])
theorem ev_isET4 {K : PySem.W.Frag} {W : WX} {env : En} {cs : List Str} {sub : Str → Str → Bool} {c x y z w : Str} {i : Nat} {a : Addr} (C : Cls K cs sub) (hc : c ∈ cs) (hx : x ∈ cs) (hy : y ∈ cs) (hz : z ∈ cs) (hw : w ∈ cs) (h : env[i]? = some (some (.raw (.ref a)))) :
    EvX K W env (tCB (rIsET K a (.ref (He.ga K c)) none) (tCons (tVar i) (tCons (tTup (tCons (tC (.ref (He.ga K x))) (tCons (tC (.ref (He.ga K y))) (tCons (tC (.ref (He.ga K z))) (tCons (tC (.ref (He.ga K w))) tNil))))) tNil))) (.ok ([x, y, z, w].any (sub c))) := fun F0 H0 F H σ Q S k => by
  obtain ⟨v, e, q⟩ := S.slot i _ h
  cases (show v = V.ref a from q)
  refine ⟨_, e, by show 4 ≤ sizeLine; decide, fun p hp => ?_⟩
  have a2 : Adv F H (upd F p (.tup [.ref (He.ga K x), .ref (He.ga K y), .ref (He.ga K z), .ref (He.ga K w)])) (upd H p (.tup [.ref (He.ga K x), .ref (He.ga K y), .ref (He.ga K z), .ref (He.ga K w)])) := Adv.new S.ex hp
  refine ⟨He.ga K c, p, [.ref (He.ga K x), .ref (He.ga K y), .ref (He.ga K z), .ref (He.ga K w)], [.ref (He.ga K x), .ref (He.ga K y), .ref (He.ga K z), .ref (He.ga K w)], [x, y, z, w].any (sub c), rfl, rfl, C.exc c hc, rfl, upd_same, (.cons (.own _) (.cons (.own _) (.cons (.own _) (.cons (.own _) .nil)))), ?_, k _ _ _ a2 rfl⟩
  exact kit_any C hc (xs := [x, y, z, w]) (by simp [hx, hy, hz, hw])
/-! ### lists that are only read -/
section
variable {K : PySem.W.Frag} {W : WX} {F0 H0 F H F' H' F1 : Hp} {env : En} {α β γ : Type} [ToD α] [ToD β] [ToD γ] {te ta tb : TE}
theorem opx_ixR : OpX K (rIxL K) (fun (xs : Ro α) (i : Int) => idx xs.xs i) := fun F H xs i v u Q e h1 h2 k => by
  obtain ⟨a, vs, rfl, hl, hr⟩ := h1
  cases (show u = V.int i from h2)
  dsimp only [idx] at k
  cases q : atI xs.xs i with
  | none => rw [q] at k; exact k.elim
  | some x =>
    rw [q] at k
    obtain ⟨w, hw, rw_⟩ := Reps.at (i := i) hr (x := toD x) (by rw [atI_map, q]; rfl)
    exact ⟨a, vs, i, w, rfl, rfl, Evl.ex_l e hl, hw, k _ F H (Adv.refl e) rw_⟩
theorem cx_lenRo : CrX K (rLenS K) (fun (p : Ro α × Unit) => .ok (p.1.xs.length : Int)) := fun F H x vs Q e r k => by
  obtain ⟨v, rs, rfl, r1, r2⟩ := r
  cases (show rs = [] from r2)
  obtain ⟨a, ws, rfl, hl, hr⟩ := r1
  refine ⟨a, ws, rfl, .inl (Evl.ex_l e hl), ?_⟩
  have := k (.int (x.1.xs.length : Int)) F H (Adv.refl e) rfl
  have l := hr.length
  rw [List.length_map] at l
  rw [← l]; exact this
theorem ei_ro {m : Res (Ro α)} (h : EvX K W env te m) : EvI K W env (iList K te) (m.bind fun x => .ok x.xs) := fun F0 H0 F H σ R S k => by
  refine h F0 H0 F H σ _ S ?_
  cases m with
  | ok x =>
    intro v F1 H1 a r
    obtain ⟨p, vs, rfl, h1, h2⟩ := r
    exact ⟨p, rfl, ⟨vs, Evl.ex_l a.in_ h1⟩, k _ F1 H1 a (js_list h1 h2)⟩
  | exc c => exact k
  | stuck => exact k.elim
theorem en_listR {m : Res (Ro α)} (h : EvX K W env te m) : EvN K W env (tCB (fun xs H Q => ∃ p ys, xs = [V.ref p] ∧ (SqL K H p ys ∨ SqT K H p ys) ∧ ∀ l, H l = none → Q (.ref l) (upd H l (.lst ys))) (tCons te tNil)) (m.bind fun x => .ok x.xs) := fun F0 H0 F H σ Q S k => by
  refine h F0 H0 F H σ _ S ?_
  cases m with
  | ok x =>
    intro v F1 H1 a r
    obtain ⟨p, vs, rfl, h1, h2⟩ := r
    exact ⟨p, vs, rfl, .inl (Evl.ex_l a.in_ h1), fun l hl => k l vs F1 _ (a.trans (Adv.newO a.in_ hl)) (Evl.fresh_back a.h hl) (none_of_ex a.in_ hl) upd_same h2⟩
  | exc c => exact k
  | stuck => exact k.elim
/-! ### joined and repeated lists -/
theorem en_cat {m1 m2 : Res (List α)} (ha : EvX K W env ta m1) (hb : EvX K W env tb m2) : EvN K W env (tOp rCat ta tb) (m1.bind fun x => m2.bind fun y => .need (x.length + y.length ≤ 16777216) (.ok (x ++ y))) := fun F0 H0 F H σ Q S k => by
  refine ha F0 H0 F H σ _ S ?_
  cases m1 with
  | ok x =>
    intro v F1 H1 a1 r1
    refine hb F0 H0 F1 H1 σ _ (S.step a1) ?_
    cases m2 with
    | ok y =>
      intro u F2 H2 a2 r2
      have k : KN K W F H σ Q (Res.need (x.length + y.length ≤ 16777216) (.ok (x ++ y))) := k
      by_cases c : x.length + y.length ≤ 16777216
      · rw [Res.need_pos c] at k
        obtain ⟨p, vs, rfl, h1, h2⟩ := r1
        obtain ⟨q, ws, rfl, g1, g2⟩ := r2
        have l1 := h2.length
        have l2 := g2.length
        rw [List.length_map] at l1 l2
        refine ⟨p, q, vs, ws, rfl, rfl, a2.h _ _ (a1.in_ _ _ h1), a2.in_ _ _ g1, ?_, fun z hz => ?_⟩
        · rw [← l1, ← l2]; exact c
        · refine k z (vs ++ ws) F2 _ ((a1.trans a2).trans (Adv.newO a2.in_ hz)) (Evl.fresh_back (a1.trans a2).h hz) (none_of_ex a2.in_ hz) upd_same ?_
          rw [List.map_append]
          exact Reps.append (Reps.mono a2.f _ _ h2) g2
      · rw [Res.need_neg c] at k; exact k.elim
    | exc c => exact fun F2 H2 a2 => k F2 H2 (a1.trans a2)
    | stuck => exact k.elim
  | exc c => exact k
  | stuck => exact k.elim
theorem Reps.flat {xs : List D} {vs : List V} (h : Reps K F xs vs) : ∀ n : Nat, Reps K F (List.replicate n xs).flatten (List.replicate n vs).flatten
  | 0 => rfl
  | n + 1 => by
    rw [List.replicate_succ, List.replicate_succ, List.flatten_cons, List.flatten_cons]
    exact Reps.append h (Reps.flat h n)
def RepOk (n : Nat) (k : Int) : Prop := -(2 ^ 63) ≤ k ∧ k < 2 ^ 63 ∧ n * k.toNat ≤ 16777216
theorem en_rep {m1 : Res (List α)} {m2 : Res Int} (ha : EvX K W env ta m1) (hb : EvX K W env tb m2) : EvN K W env (tOp rRep ta tb) (m1.bind fun x => m2.bind fun y => .need (RepOk x.length y) (.ok (List.replicate y.toNat x).flatten)) := fun F0 H0 F H σ Q S k => by
  refine ha F0 H0 F H σ _ S ?_
  cases m1 with
  | ok x =>
    intro v F1 H1 a1 r1
    refine hb F0 H0 F1 H1 σ _ (S.step a1) ?_
    cases m2 with
    | ok y =>
      intro u F2 H2 a2 r2
      have k : KN K W F H σ Q (Res.need (RepOk x.length y) (.ok (List.replicate y.toNat x).flatten)) := k
      by_cases c : RepOk x.length y
      · rw [Res.need_pos c] at k
        obtain ⟨p, vs, rfl, h1, h2⟩ := r1
        cases (show u = V.int y from r2)
        have l1 := h2.length
        rw [List.length_map] at l1
        refine ⟨p, y, vs, rfl, rfl, a2.h _ _ (a1.in_ _ _ h1), c.1, c.2.1, ?_, fun z hz => ?_⟩
        · rw [← l1]; exact c.2.2
        · refine k z _ F2 _ ((a1.trans a2).trans (Adv.newO a2.in_ hz)) (Evl.fresh_back (a1.trans a2).h hz) (none_of_ex a2.in_ hz) upd_same ?_
          have := Reps.flat h2 y.toNat
          rw [List.map_flatten, List.map_replicate]
          exact Reps.mono a2.f _ _ this
      · rw [Res.need_neg c] at k; exact k.elim
    | exc c => exact fun F2 H2 a2 => k F2 H2 (a1.trans a2)
    | stuck => exact k.elim
  | exc c => exact k
  | stuck => exact k.elim
theorem rep1 {α : Type} (x : α) (n : Nat) : (List.replicate n [x]).flatten = List.replicate n x := by
  induction n with
  | zero => rfl
  | succ n ih => rw [List.replicate_succ, List.flatten_cons, ih, List.replicate_succ]; rfl
end
end Mi
set_option maxHeartbeats 1000000
namespace Mi
open PySem PySem.Spec L2 PyProof.Rows
open Evl (Ex)
/-! ### xs[i] += e -/
def rGetL : V → V → Hp → VK → Prop := fun o i H Q => ∃ p xs k v, o = .ref p ∧ i = .int k ∧ H p = some (.lst xs) ∧ 0 ≤ k ∧ xs[k.toNat]? = some v ∧ Q v H
theorem pget_list {X : Cx} : PGet X rGetL := by
  intro pins s σ H o i ov iv Q I ro ri h
  obtain ⟨p, xs, k, z, rfl, rfl, hp, h0, hz, q⟩ := h
  cases ro
  obtain ⟨t, rfl⟩ := ri
  obtain ⟨its, r, pl, hs⟩ := I.list (show SqL X.K H p xs from Or.inl (Or.inl hp))
  obtain ⟨w, ew, rw'⟩ := r.get hz
  have hl := r.length
  have hn := line63
  have hlt : k.toNat < xs.length := (List.getElem?_eq_some_iff.mp hz).1
  exact getItem_listL pl.isList h0 (by omega) ew ⟨z, H, I, rw', q⟩
section
variable {K : PySem.W.Frag} {W : WX} {F0 H0 F H F' H' F1 : Hp} {rt : VK} {PT : En → Prop} {env env' : En} {τ : Type} [ToD τ] {KP : Res τ → Prop} {te ta tb tc : TE} {Z : Ends}
theorem blk_augI {i : Nat} {xs : List Int} {m mi : Res Int} {f : List Int → Res τ} {g : Int → Int → Int} (L : Lk K W F0 H0 rt PT KP) (hT : PT env) (hx : env[i]? = some (some (.ow (xs.map toD)))) (hi : EvX K W env tb mi) (he : EvX K W env te m)
    (k : ∀ ys : List Int, Blk K F0 H0 KP Z.nx (env.set i (some (.ow (ys.map toD)))) (f ys)) :
    Blk K F0 H0 KP (tAugS (tVar i) tb te rGetL (ipI g) rSetL Z) env (mi.bind fun j => .need (0 ≤ j) (match xs[j.toNat]? with | some x => m.bind fun y => f (xs.set j.toNat (g x y)) | none => .stuck)) := fun F H σ S h => by
  obtain ⟨v, e, p, vs, rfl, h0, hf, hp, hr⟩ := S.slot i _ hx
  refine ⟨_, e, ?_⟩
  refine hi F0 H0 F H σ _ S (L.ke hT S h fun j w F1 H1 e1 a1 r1 h1 => ?_)
  cases (show w = V.int j from r1)
  have hl : vs.length = xs.length := by rw [← hr.length, List.length_map]
  by_cases c : 0 ≤ j
  · rw [Res.need_pos c] at h1
    cases q : xs[j.toNat]? with
    | none => rw [q] at h1; exact (L.no h1).elim
    | some x =>
      rw [q] at h1
      have hr1 := Reps.mono a1.f _ _ hr
      obtain ⟨z, hz, rz⟩ := Reps.get hr1 (i := j.toNat) (e := D.int x) (by rw [List.getElem?_map, q]; rfl)
      cases (show z = V.int x from rz)
      refine ⟨p, vs, j, _, rfl, rfl, a1.h _ _ hp, c, hz, ?_⟩
      refine he F0 H0 F1 H1 σ _ (S.step a1) (L.ke hT (S.step a1) h1 fun y u F2 H2 e2 a2 r2 h2 => ?_)
      cases (show u = V.int y from r2)
      have ha := a1.trans a2
      have hj : ixN vs.length j = some j.toNat := by
        have := (List.getElem?_eq_some_iff.mp q).1
        unfold ixN
        rw [if_pos c, if_pos (by rw [hl]; omega)]
      refine ⟨x, y, rfl, rfl, p, vs, j, j.toNat, rfl, rfl, ha.h _ _ hp, hj, ?_⟩
      refine k (xs.set j.toNat (g x y)) F2 _ σ ((S.step ha).chg hx e (ha.out p hf (by rw [hp]; simp)) h0 ?_) h2
      rw [List.map_set]
      exact Reps.set j.toNat (Reps.mono ha.f _ _ hr) rfl
  · rw [Res.need_neg c] at h1; exact (L.no h1).elim
end
theorem cr_fld {X : Cx} {K : PySem.W.Frag} {e : Expr} {ta : TE} {f : Str} {pos : Pos} (h : X.K = K) (he : PE X e ta) (hb : attributeBase e f X.env (eval e X.env) = eval e X.env) : PE X (.Attribute e f pos) (tFld K ta f) := by
  subst h; exact pe_fld he hb
end Mi
set_option maxHeartbeats 1000000
namespace Mi
open PySem PySem.Spec L2
/-! ### what follows, in plain mathematics -/
theorem need_bind {α β : Type} {p : Prop} (m : Res α) (f : α → Res β) : (Res.need p m).bind f = Res.need p (m.bind f) := by
  by_cases h : p
  · rw [Res.need_pos h, Res.need_pos h]
  · rw [Res.need_neg h, Res.need_neg h]; rfl
theorem cond_dec {α : Type} {p : Prop} [Decidable p] (a b : α) : cond (decide p) a b = if p then a else b := by
  by_cases h : p <;> simp [h]
theorem cond_not {α : Type} {p : Bool} (a b : α) : cond (!p) a b = cond p b a := by cases p <;> rfl
theorem ibits_le {i : Int} {n : Nat} (h : Builtin.Int.intBits i ≤ n) : i.natAbs < 2 ^ n := by
  unfold Builtin.Int.intBits at h
  split at h
  · rename_i h0
    have : i = 0 := by simpa using h0
    subst this
    exact Nat.two_pow_pos n
  · rename_i h0
    have hne : i.natAbs ≠ 0 := by
      intro z
      apply h0
      have : i = 0 := Int.natAbs_eq_zero.mp z
      simp [this]
    have h1 : i.natAbs.log2 < n := by omega
    exact (Nat.log2_lt hne).mp h1
theorem le_ibits {i : Int} {n : Nat} (h : i.natAbs < 2 ^ n) : Builtin.Int.intBits i ≤ n := by
  unfold Builtin.Int.intBits
  split
  · exact Nat.zero_le _
  · rename_i h0
    have hne : i.natAbs ≠ 0 := by
      intro z
      apply h0
      have : i = 0 := Int.natAbs_eq_zero.mp z
      simp [this]
    have := (Nat.log2_lt hne).mpr h
    omega
theorem cmulx {i j : Int} {a b : Nat} (ha : i.natAbs < 2 ^ a) (hb : j.natAbs < 2 ^ b) (h : a + b ≤ 134217728) : CMulX i j := mulx_ok ha hb h
theorem need_mulx {α : Type} {i j : Int} {m : Res α} {a b : Nat} (ha : i.natAbs < 2 ^ a) (hb : j.natAbs < 2 ^ b) (h : a + b ≤ 134217728) : Res.need (CMulX i j) m = m := Res.need_pos (cmulx ha hb h)
theorem pow_add_lt {x y a b : Nat} (ha : x < 2 ^ a) (hb : y < 2 ^ b) : x * y < 2 ^ (a + b) := by
  rw [Nat.pow_add]; exact Nat.mul_lt_mul'' ha hb
theorem idx_nat {α : Type} {xs : List α} {j : Nat} {v : α} (h : xs[j]? = some v) : idx xs (j : Int) = .ok v := by
  unfold idx; rw [atI_nat h]
theorem idx_int {α : Type} {xs : List α} {i : Int} {v : α} (h0 : 0 ≤ i) (h : xs[i.toNat]? = some v) : idx xs i = .ok v := by
  have : i = (i.toNat : Int) := by omega
  rw [this]; exact idx_nat h
theorem idx_last {α : Type} (xs : List α) (v : α) : idx (xs ++ [v]) (-1) = .ok v := by
  unfold idx; rw [atI_last]
theorem pow31 : ((2 : Int) ^ (31 : Int).toNat) = 2147483648 := by decide +kernel
theorem pow18 : ((10 : Int) ^ (18 : Int).toNat) = 1000000000000000000 := by decide +kernel
theorem m31_lt : (2147483648 : Int).natAbs < 2 ^ 32 := by decide +kernel
theorem compL_none {α β : Type} {t : α → Res Bool} {e : α → Res β} {xs : List α} (h : ∀ x ∈ xs, t x = .ok false) : compL t e xs = .ok [] := by
  induction xs with
  | nil => rfl
  | cons x r ih =>
    show (t x).bind _ = _
    rw [h x List.mem_cons_self]
    exact ih fun y hy => h y (List.mem_cons_of_mem _ hy)
theorem compL_map {α β : Type} {t : α → Res Bool} {e : α → Res β} {g : α → β} {xs : List α} (ht : ∀ x ∈ xs, t x = .ok true) (he : ∀ x ∈ xs, e x = .ok (g x)) : compL t e xs = .ok (xs.map g) := by
  induction xs with
  | nil => rfl
  | cons x r ih =>
    show (t x).bind _ = _
    rw [ht x List.mem_cons_self]
    show (e x).bind _ = _
    rw [he x List.mem_cons_self]
    show (compL t e r).bind _ = _
    rw [ih (fun y hy => ht y (List.mem_cons_of_mem _ hy)) fun y hy => he y (List.mem_cons_of_mem _ hy)]
    rfl
theorem bit1 (x : Int) : Builtin.bitAnd x 1 = x % 2 := by
  have := PySem.W.kbt_mask x 1
  simpa using this
theorem bind_ite {α β : Type} {p : Prop} [Decidable p] (a b : Res α) (f : α → Res β) : (if p then a else b).bind f = if p then a.bind f else b.bind f := by split <;> rfl
theorem idx_getLast {α : Type} {xs : List α} {v : α} (h : xs.getLast? = some v) : idx xs (-1) = .ok v := by
  obtain ⟨ys, rfl⟩ := List.getLast?_eq_some_iff.mp h
  exact idx_last ys v
/-! == of data -/
theorem pyEq_int (i j : Int) : pyEq (.int i) (.int j) = (i == j) := by simp [pyEq, D.py, PyData.eqv]
mutual
/-- no truth values within -/
def D.nob : D → Bool
  | .bl _ => false
  | .ty _ => false
  | .obj _ _ _ => false
  | .ro _ => false
  | .tup xs => nobL xs
  | .lst xs => nobL xs
  | _ => true
def nobL : List D → Bool
  | [] => true
  | x :: xs => D.nob x && nobL xs
end
mutual
theorem pyEq_iff : ∀ (x y : D), x.nob = true → y.nob = true → (PyData.eqv x.py y.py = true ↔ x = y)
  | .non, y, _, h => by cases y <;> simp_all [D.py, PyData.eqv, D.nob]
  | .int i, y, _, h => by cases y <;> simp_all [D.py, PyData.eqv, D.nob]
  | .str s, y, _, h => by cases y <;> simp_all [D.py, PyData.eqv, D.nob]
  | .bl b, y, h, _ => by cases h
  | .ty b, y, h, _ => by cases h
  | .obj a b c, y, h, _ => by cases h
  | .ro a, y, h, _ => by cases h
  | .tup xs, y, h1, h => by
    cases y with
    | tup ys =>
      have := pyEqL_iff xs ys h1 h
      simp only [D.py, PyData.eqv, D.tup.injEq]; exact this
    | bl b => cases h
    | ty b => cases h
    | obj a b c => cases h
    | ro a => cases h
    | _ => simp [D.py, PyData.eqv]
  | .lst xs, y, h1, h => by
    cases y with
    | lst ys =>
      have := pyEqL_iff xs ys h1 h
      simp only [D.py, PyData.eqv, D.lst.injEq]; exact this
    | bl b => cases h
    | ty b => cases h
    | obj a b c => cases h
    | ro a => cases h
    | _ => simp [D.py, PyData.eqv]
theorem pyEqL_iff : ∀ (xs ys : List D), nobL xs = true → nobL ys = true → (PyData.eqvAll (pyL xs) (pyL ys) = true ↔ xs = ys)
  | [], ys, _, h => by cases ys <;> simp [pyL, PyData.eqvAll]
  | x :: xs, ys, h1, h => by
    cases ys with
    | nil => simp [pyL, PyData.eqvAll]
    | cons y ys =>
      obtain ⟨a1, a2⟩ := Bool.and_eq_true_iff.mp (show (D.nob x && nobL xs) = true from h1)
      obtain ⟨b1, b2⟩ := Bool.and_eq_true_iff.mp (show (D.nob y && nobL ys) = true from h)
      simp only [pyL, PyData.eqvAll, Bool.and_eq_true, pyEq_iff x y a1 b1, pyEqL_iff xs ys a2 b2, List.cons.injEq]
end
theorem pyEq_dec {x y : D} (hx : x.nob = true) (hy : y.nob = true) : pyEq x y = true ↔ x = y := pyEq_iff x y hx hy
theorem pyEq_self {x : D} (hx : x.nob = true) : pyEq x x = true := (pyEq_dec hx hx).mpr rfl
theorem pyEq_ne {x y : D} (hx : x.nob = true) (hy : y.nob = true) (h : x ≠ y) : pyEq x y = false := by
  cases e : pyEq x y with
  | false => rfl
  | true => exact absurd ((pyEq_dec hx hy).mp e) h
theorem nob_ints : ∀ xs : List Int, nobL (xs.map D.int) = true
  | [] => rfl
  | _ :: xs => nob_ints xs
theorem nob_strs : ∀ xs : List Str, nobL (xs.map D.str) = true
  | [] => rfl
  | _ :: xs => nob_strs xs
theorem flat_ints : ∀ xs : List Int, flatL (xs.map D.int) = true
  | [] => rfl
  | _ :: xs => flat_ints xs
theorem lay_ints : ∀ xs : List Int, PyData.canLayAll0 (pyL (xs.map D.int)) = true
  | [] => rfl
  | _ :: xs => by show (true && _) = true; rw [lay_ints xs]; rfl
theorem dep_ints : ∀ xs : List Int, PyData.depthAll (pyL (xs.map D.int)) = 0
  | [] => rfl
  | _ :: xs => by show max 0 _ = 0; rw [dep_ints xs]; rfl
theorem okq_ints (xs : List Int) : (toD xs).okq = true := by
  show (flatL (xs.map D.int) && (PyData.canLayAll0 (pyL (xs.map D.int)) && decide (PyData.depthAll (pyL (xs.map D.int)) + 1 ≤ 64))) = true
  rw [flat_ints, lay_ints, dep_ints]; rfl
theorem toD_ints_inj {xs ys : List Int} (h : toD xs = toD ys) : xs = ys := by
  have h : xs.map D.int = ys.map D.int := D.lst.inj h
  exact List.map_inj_right (fun a b q => D.int.inj q) |>.mp h
theorem pyEq_ints (xs ys : List Int) : pyEq (toD xs) (toD ys) = decide (xs = ys) := by
  by_cases h : xs = ys
  · subst h; rw [pyEq_self (show (toD xs).nob = true from nob_ints xs)]; simp
  · rw [pyEq_ne (show (toD xs).nob = true from nob_ints xs) (show (toD ys).nob = true from nob_ints ys) fun e => h (toD_ints_inj e)]; simp [h]
theorem lmin_mem {es : List Int} (h : 0 < es.length) : lmin es ∈ es := by
  cases es with
  | nil => simp at h
  | cons x r =>
    rcases foldl_min_mem r x with q | q
    · show r.foldl min x ∈ x :: r
      rw [q]; exact List.mem_cons_self
    · exact List.mem_cons_of_mem _ q
theorem lmax_mem {es : List Int} (h : 0 < es.length) : lmax es ∈ es := by
  cases es with
  | nil => simp at h
  | cons x r =>
    rcases foldl_max_mem r x with q | q
    · show r.foldl max x ∈ x :: r
      rw [q]; exact List.mem_cons_self
    · exact List.mem_cons_of_mem _ q
theorem pyRange_drop {n i : Nat} (h : i < n) : (pyRange 0 (n : Int)).drop i = (i : Int) :: (pyRange 0 (n : Int)).drop (i + 1) := by
  have hl : (pyRange 0 (n : Int)).length = n := by rw [pyRange_len]; omega
  rw [List.drop_eq_getElem_cons (by omega)]
  congr 1
  have := pyRange_get (lo := 0) (hi := (n : Int)) (i := i) (by omega)
  rw [List.getElem?_eq_getElem (by omega)] at this
  have := Option.some.inj this
  omega
theorem pyRange_nonneg {k n : Int} (h : k ∈ pyRange 0 n) : 0 ≤ k := by
  obtain ⟨i, _, rfl⟩ := List.mem_map.mp h
  omega
theorem toD_D (x : D) : toD x = x := rfl
theorem okq_int (i : Int) : (toD (D.int i)).okq = true := rfl
theorem compL_get {α β : Type} (f : α → Res β) {xs : List α} {ys : List β} (h : xs.length = ys.length) (he : ∀ i (h1 : i < xs.length) (h2 : i < ys.length), f xs[i] = .ok ys[i]) : compL (fun _ => .ok true) f xs = .ok ys := by
  induction xs generalizing ys with
  | nil => cases ys with
    | nil => rfl
    | cons y r => simp at h
  | cons x xs ih =>
    cases ys with
    | nil => simp at h
    | cons y ys =>
      show (f x).bind _ = _
      rw [show f x = .ok y from he 0 (by simp) (by simp)]
      show (compL (fun _ => .ok true) f xs).bind _ = _
      rw [ih (by simpa using h) fun i h1 h2 => he (i + 1) (by simp; omega) (by simp; omega)]
      rfl
end Mi
set_option maxHeartbeats 1000000
namespace Mi
/-! ### primes -/
def IsP (n : Nat) : Prop := 2 ≤ n ∧ ∀ d, d ∣ n → d = 1 ∨ d = n
theorem IsP.cop {p a : Nat} (h : IsP p) (ha : ¬ p ∣ a) : Nat.Coprime p a := by
  rcases h.2 _ (Nat.gcd_dvd_left p a) with e | e
  · exact e
  · exact absurd (e ▸ Nat.gcd_dvd_right p a) ha
theorem IsP.dvd_mul {p a b : Nat} (h : IsP p) (hd : p ∣ a * b) : p ∣ a ∨ p ∣ b := by
  by_cases ha : p ∣ a
  · exact .inl ha
  · exact .inr ((h.cop ha).dvd_of_dvd_mul_left hd)
theorem IsP.dvd_pow {p a : Nat} (h : IsP p) : ∀ k, p ∣ a ^ k → p ∣ a
  | 0, hd => by
    rw [Nat.pow_zero] at hd
    have := Nat.le_of_dvd (by decide) hd
    have := h.1
    omega
  | k + 1, hd => by
    rw [Nat.pow_succ] at hd
    rcases h.dvd_mul hd with q | q
    · exact h.dvd_pow k q
    · exact q
def prodL (l : List Nat) : Nat := l.foldr (· * ·) 1
theorem prodL_perm {l m : List Nat} (h : l.Perm m) : prodL l = prodL m := by
  induction h with
  | nil => rfl
  | cons x _ ih => simp only [prodL, List.foldr_cons] at *; rw [ih]
  | swap x y l => simp only [prodL, List.foldr_cons]; rw [Nat.mul_left_comm]
  | trans _ _ h1 h2 => exact h1.trans h2
theorem perm_of_sub : ∀ (l L : List Nat), l.Nodup → (∀ x ∈ l, x ∈ L) → L.length ≤ l.length → l.Perm L := by
  intro l
  induction l with
  | nil =>
    intro L _ _ h
    have : L = [] := List.eq_nil_of_length_eq_zero (by simpa using h)
    subst this; exact List.Perm.nil
  | cons x r ih =>
    intro L hn hs hl
    obtain ⟨n1, n2⟩ := List.nodup_cons.mp hn
    have hx := hs x List.mem_cons_self
    have e := List.length_erase_of_mem hx
    have hp := List.length_pos_of_mem hx
    have q := ih (L.erase x) n2 (fun y hy => (List.mem_erase_of_ne (by intro z; subst z; exact n1 hy)).mpr (hs y (List.mem_cons_of_mem _ hy))) (by rw [e]; simp at hl; omega)
    exact (q.cons x).trans (List.perm_cons_erase hx).symm
theorem prod_mod (a p : Nat) : ∀ l : List Nat, prodL (l.map fun x => a * x % p) % p = a ^ l.length * prodL l % p := by
  intro l
  induction l with
  | nil => simp [prodL]
  | cons x r ih =>
    show (a * x % p) * prodL (r.map fun x => a * x % p) % p = a ^ (r.length + 1) * (x * prodL r) % p
    rw [Nat.mul_mod, ih, Nat.mod_mod, ← Nat.mul_mod]
    congr 1
    rw [Nat.pow_succ]
    ac_rfl
theorem prod_cop {p : Nat} (h : IsP p) : ∀ l : List Nat, (∀ x ∈ l, 0 < x ∧ x < p) → ¬ p ∣ prodL l := by
  intro l
  induction l with
  | nil =>
    intro _ hd
    have := Nat.le_of_dvd (by decide) hd
    have := h.1
    simp [prodL] at *; omega
  | cons x r ih =>
    intro hx hd
    rcases h.dvd_mul hd with q | q
    · have := hx x List.mem_cons_self
      have := Nat.le_of_dvd this.1 q
      omega
    · exact ih (fun y hy => hx y (List.mem_cons_of_mem _ hy)) q
theorem dvd_sub_of_mod {x y p : Nat} (h : y ≤ x) (e : x % p = y % p) : p ∣ x - y := Nat.dvd_of_mod_eq_zero (Nat.sub_mod_eq_zero_of_mod_eq e)
theorem inj_mod {p a x y : Nat} (h : IsP p) (ha : ¬ p ∣ a) (hx : x < p) (hy : y < p) (e : a * x % p = a * y % p) : x = y := by
  rcases Nat.le_total y x with q | q
  · have d := dvd_sub_of_mod (Nat.mul_le_mul_left a q) e
    rw [← Nat.mul_sub] at d
    rcases h.dvd_mul d with d | d
    · exact absurd d ha
    · have := Nat.eq_zero_of_dvd_of_lt d (by omega); omega
  · have d := dvd_sub_of_mod (Nat.mul_le_mul_left a q) e.symm
    rw [← Nat.mul_sub] at d
    rcases h.dvd_mul d with d | d
    · exact absurd d ha
    · have := Nat.eq_zero_of_dvd_of_lt d (by omega); omega
/-- Fermat -/
theorem fermat {p a : Nat} (h : IsP p) (ha : ¬ p ∣ a) : a ^ (p - 1) % p = 1 := by
  have h2 := h.1
  have hL : ∀ x ∈ List.range' 1 (p - 1), 0 < x ∧ x < p := fun x hx => by
    have := List.mem_range'_1.mp hx; omega
  have nd : (List.range' 1 (p - 1)).Nodup := List.nodup_range'
  have pm : ((List.range' 1 (p - 1)).map fun x => a * x % p).Perm (List.range' 1 (p - 1)) := by
    refine perm_of_sub _ _ ?_ ?_ (by simp)
    · refine List.pairwise_map.mpr (List.Pairwise.imp_of_mem (fun {x y} hx hy q e => q (inj_mod h ha (hL x hx).2 (hL y hy).2 e)) nd)
    · intro y hy
      obtain ⟨x, hx, rfl⟩ := List.mem_map.mp hy
      have q := hL x hx
      have lt := Nat.mod_lt (a * x) (show 0 < p by omega)
      refine List.mem_range'_1.mpr ⟨Nat.pos_of_ne_zero fun z => ?_, by omega⟩
      rcases h.dvd_mul (Nat.dvd_of_mod_eq_zero z) with d | d
      · exact ha d
      · have := Nat.le_of_dvd q.1 d; omega
  have e := prod_mod a p (List.range' 1 (p - 1))
  rw [prodL_perm pm, List.length_range'] at e
  have nc := prod_cop h _ hL
  generalize prodL (List.range' 1 (p - 1)) = P at *
  have hpos : 0 < a := Nat.pos_of_ne_zero fun z => ha (z ▸ Nat.dvd_zero p)
  have h1 : 1 ≤ a ^ (p - 1) := Nat.pow_pos hpos
  have d := dvd_sub_of_mod (x := a ^ (p - 1) * P) (y := P) (by
    have := Nat.mul_le_mul_right P h1; omega) e.symm
  have e3 : a ^ (p - 1) * P - P = (a ^ (p - 1) - 1) * P := by rw [Nat.sub_mul, Nat.one_mul]
  rw [e3] at d
  rcases h.dvd_mul d with d | d
  · obtain ⟨k, hk⟩ := d
    have : a ^ (p - 1) = 1 + p * k := by omega
    rw [this, Nat.add_mul_mod_self_left, Nat.mod_eq_of_lt (by omega)]
  · exact absurd d nc
theorem pow_mod_one {b m : Nat} (hm : 1 < m) {i : Nat} (h : b ^ i % m = 1) (k : Nat) : b ^ (i * k) % m = 1 := by
  rw [Nat.pow_mul, Nat.pow_mod, h, Nat.one_pow, Nat.mod_eq_of_lt hm]
theorem pow_gcd {b m : Nat} (hm : 1 < m) (i j : Nat) : b ^ i % m = 1 → b ^ j % m = 1 → b ^ Nat.gcd i j % m = 1 := by
  induction i, j using Nat.gcd.induction with
  | H0 n => intro _ h; rwa [Nat.gcd_zero_left]
  | H1 i j hi ih =>
    intro h1 h2
    rw [Nat.gcd_rec]
    refine ih ?_ h1
    have e := Nat.div_add_mod j i
    rw [← e, Nat.pow_add, Nat.mul_mod, pow_mod_one hm h1, Nat.one_mul, Nat.mod_mod] at h2
    exact h2
/-- every prime factor of n is 1 above a multiple of q -/
theorem pock {n a q : Nat} (hq : IsP q) (hd : q ∣ n - 1) (h1 : a ^ (n - 1) % n = 1) (hg : Nat.gcd (a ^ ((n - 1) / q) % n - 1) n = 1) (h0 : 0 < a ^ ((n - 1) / q) % n) {p : Nat} (hp : IsP p) (hpn : p ∣ n) : q ∣ p - 1 := by
  have p2 := hp.1
  have hb : (a ^ ((n - 1) / q)) ^ q % p = 1 := by
    rw [← Nat.pow_mul, Nat.div_mul_cancel hd, ← Nat.mod_mod_of_dvd _ hpn, h1, Nat.mod_eq_of_lt (by omega)]
  have hnd : ¬ p ∣ a ^ ((n - 1) / q) := fun d => by
    have : p ∣ (a ^ ((n - 1) / q)) ^ q := by
      have hq0 : q = (q - 1) + 1 := by have := hq.1; omega
      generalize a ^ ((n - 1) / q) = b at *
      rw [hq0, Nat.pow_succ]
      exact Nat.dvd_trans d (Nat.dvd_mul_left ..)
    rw [Nat.mod_eq_zero_of_dvd this] at hb; cases hb
  have f := fermat hp hnd
  have g := pow_gcd (by omega) q (p - 1) hb f
  rcases hq.2 _ (Nat.gcd_dvd_left q (p - 1)) with e | e
  · rw [e, Nat.pow_one] at g
    have d : p ∣ a ^ ((n - 1) / q) % n - 1 := by
      refine dvd_sub_of_mod (by omega) ?_
      rw [Nat.mod_mod_of_dvd _ hpn, g, Nat.mod_eq_of_lt (by omega)]
    have := Nat.dvd_gcd d hpn
    rw [hg] at this
    have := Nat.le_of_dvd (by decide) this
    omega
  · exact e ▸ Nat.gcd_dvd_right q (p - 1)
theorem has_prime : ∀ (n : Nat), 2 ≤ n → ∃ p, IsP p ∧ p ∣ n := by
  intro n
  induction n using Nat.strongRecOn with
  | ind n ih =>
    intro h
    by_cases hp : IsP n
    · exact ⟨n, hp, Nat.dvd_refl n⟩
    · have : ∃ d, d ∣ n ∧ d ≠ 1 ∧ d ≠ n := by
        refine Classical.byContradiction fun c => hp ⟨h, fun d hd => ?_⟩
        refine Classical.byContradiction fun e => c ⟨d, hd, fun z => e (.inl z), fun z => e (.inr z)⟩
      obtain ⟨d, hd, h1, h2⟩ := this
      have hle := Nat.le_of_dvd (by omega) hd
      have h0 : d ≠ 0 := fun z => by subst z; have := Nat.eq_zero_of_zero_dvd hd; omega
      obtain ⟨p, p1, p2⟩ := ih d (by omega) (by omega)
      exact ⟨p, p1, Nat.dvd_trans p2 hd⟩
/-- no prime factor up to the root: a prime -/
theorem isP_of {n : Nat} (h2 : 2 ≤ n) (h : ∀ p, IsP p → p ∣ n → n < p * p) : IsP n := by
  refine ⟨h2, fun d hd => Classical.byContradiction fun c => ?_⟩
  have hle := Nat.le_of_dvd (by omega) hd
  have h0 : d ≠ 0 := fun z => by subst z; have := Nat.eq_zero_of_zero_dvd hd; omega
  have h1 : d ≠ 1 := fun z => c (.inl z)
  have h3 : d ≠ n := fun z => c (.inr z)
  obtain ⟨e, rfl⟩ := hd
  have e2 : 2 ≤ e := by
    rcases (by omega : e = 0 ∨ e = 1 ∨ 2 ≤ e) with rfl | rfl | q
    · omega
    · omega
    · exact q
  obtain ⟨p, p1, p2⟩ := has_prime d (by omega)
  obtain ⟨q, q1, q2⟩ := has_prime e e2
  have a1 := h p p1 (Nat.dvd_trans p2 (Nat.dvd_mul_right d e))
  have a2 := h q q1 (Nat.dvd_trans q2 (Nat.dvd_mul_left e d))
  have b1 := Nat.le_of_dvd (by omega) p2
  have b2 := Nat.le_of_dvd (by omega) q2
  have b3 := Nat.mul_le_mul b1 b2
  rcases Nat.le_total p q with z | z
  · have := Nat.mul_le_mul_left p z; omega
  · have := Nat.mul_le_mul_right q z; omega
/-- the power's residue, as the kernel works it out -/
def pwm (n : Nat) : Nat → Nat → Nat → Nat → Nat
  | 0, _, _, acc => acc
  | f + 1, b, e, acc => pwm n f (b * b % n) (e / 2) (if e % 2 = 1 then acc * b % n else acc)
theorem pwm_eq (n : Nat) : ∀ (f b e acc : Nat), e < 2 ^ f → pwm n f b e acc % n = acc * b ^ e % n := by
  intro f
  induction f with
  | zero => intro b e acc h; have : e = 0 := by simpa using h
            subst this; simp [pwm]
  | succ f ih =>
    intro b e acc h
    rw [pwm, ih _ _ _ (by rw [Nat.pow_succ] at h; omega)]
    have e2 : b ^ e = (b * b) ^ (e / 2) * b ^ (e % 2) := by
      rw [← Nat.pow_two, ← Nat.pow_mul, ← Nat.pow_add, Nat.div_add_mod]
    rw [e2, Nat.mul_mod, ← Nat.pow_mod, ← Nat.mul_mod]
    rcases (by omega : e % 2 = 0 ∨ e % 2 = 1) with z | z
    · rw [z, if_neg (by decide), Nat.pow_zero, Nat.mul_one]
    · rw [z, if_pos rfl, Nat.pow_one, Nat.mul_mod, Nat.mod_mod, ← Nat.mul_mod]
      congr 1; ac_rfl
theorem pwm_one {n f b e : Nat} (h : e < 2 ^ f) : pwm n f b e 1 % n = b ^ e % n := by rw [pwm_eq n f b e 1 h, Nat.one_mul]
/-- one prime q of n - 1, by numbers -/
def pkOk (n a q f : Nat) : Bool := decide (q ∣ n - 1) && decide (n - 1 < 2 ^ f) && decide (pwm n f a (n - 1) 1 % n = 1) && decide (Nat.gcd (pwm n f a ((n - 1) / q) 1 % n - 1) n = 1) && decide (0 < pwm n f a ((n - 1) / q) 1 % n)
theorem pk_of {n a q f : Nat} (hq : IsP q) (h : pkOk n a q f = true) {p : Nat} (hp : IsP p) (hpn : p ∣ n) : q ∣ p - 1 := by
  simp only [pkOk, Bool.and_eq_true, decide_eq_true_eq] at h
  obtain ⟨⟨⟨⟨h1, h2⟩, h3⟩, h4⟩, h5⟩ := h
  have h6 : (n - 1) / q < 2 ^ f := Nat.lt_of_le_of_lt (Nat.div_le_self ..) h2
  rw [pwm_one h2] at h3
  rw [pwm_one h6] at h4 h5
  exact pock hq h1 h3 h4 h5 hp hpn
theorem small_prime {n : Nat} (h2 : 2 ≤ n) (h : ∀ d, 2 ≤ d → d * d ≤ n → ¬ d ∣ n) : IsP n :=
  isP_of h2 fun p hp hd => Nat.lt_of_not_le fun z => h p hp.1 z hd
def noDiv (n : Nat) : Nat → Nat → Bool
  | 0, _ => true
  | f + 1, d => !decide (n % d = 0) && noDiv n f (d + 1)
theorem noDiv_ok (n : Nat) : ∀ (f d : Nat), noDiv n f d = true → ∀ k, d ≤ k → k < d + f → ¬ k ∣ n
  | 0, d, _, k, h1, h2 => by omega
  | f + 1, d, h, k, h1, h2 => by
    rw [noDiv, Bool.and_eq_true] at h
    obtain ⟨a, b⟩ := h
    by_cases e : k = d
    · subst e
      intro z
      rw [Nat.mod_eq_zero_of_dvd z] at a
      simp at a
    · exact noDiv_ok n f (d + 1) b k (by omega) (by omega)
theorem prime_by {n f : Nat} (h2 : 2 ≤ n) (hf : n < (f + 2) * (f + 2)) (h : noDiv n f 2 = true) : IsP n :=
  small_prime h2 fun d h3 h4 h5 => noDiv_ok n f 2 h d h3 (Nat.lt_of_not_le fun z => by
    have := Nat.mul_le_mul z z
    rw [Nat.add_comm] at hf
    omega) h5
theorem IsP.eq_of_dvd {p q : Nat} (hp : IsP p) (hq : IsP q) (h : p ∣ q) : p = q := by
  rcases hq.2 p h with e | e
  · have := hp.1; omega
  · exact e
theorem IsP.dvd_prod {p : Nat} (h : IsP p) : ∀ l : List Nat, (∀ x ∈ l, IsP x) → p ∣ prodL l → p ∈ l := by
  intro l
  induction l with
  | nil =>
    intro _ hd
    have hd : p ∣ 1 := hd
    have := Nat.le_of_dvd (by decide) hd
    have := h.1
    omega
  | cons x r ih =>
    intro hx hd
    rcases h.dvd_mul hd with q | q
    · rw [h.eq_of_dvd (hx x List.mem_cons_self) q]; exact List.mem_cons_self
    · exact List.mem_cons_of_mem _ (ih (fun y hy => hx y (List.mem_cons_of_mem _ hy)) q)
theorem prod_dvd : ∀ (l : List Nat) (m : Nat), l.Nodup → (∀ x ∈ l, IsP x) → (∀ x ∈ l, x ∣ m) → prodL l ∣ m := by
  intro l
  induction l with
  | nil => intro m _ _ _; exact Nat.one_dvd m
  | cons x r ih =>
    intro m hn hp hd
    obtain ⟨n1, n2⟩ := List.nodup_cons.mp hn
    have hx := hp x List.mem_cons_self
    have hr := fun y hy => hp y (List.mem_cons_of_mem x hy)
    have c := hx.cop (fun z => n1 (hx.dvd_prod r hr z))
    exact Nat.Coprime.mul_dvd_of_dvd_of_dvd c (hd x List.mem_cons_self) (ih m n2 hr fun y hy => hd y (List.mem_cons_of_mem _ hy))
theorem isP_pock {n f : Nat} (h2 : 2 ≤ n) (qs : List (Nat × Nat)) (hp : ∀ x ∈ qs, IsP x.1) (hk : (qs.all fun x => pkOk n x.2 x.1 f) = true) (hd : (qs.map (·.1)).Nodup) (hF : n < (prodL (qs.map (·.1)) + 1) * (prodL (qs.map (·.1)) + 1)) : IsP n := by
  refine isP_of h2 fun p p1 p2 => ?_
  have d := prod_dvd (qs.map (·.1)) (p - 1) hd (fun x hx => by
    obtain ⟨y, hy, rfl⟩ := List.mem_map.mp hx
    exact hp y hy) (fun x hx => by
    obtain ⟨y, hy, rfl⟩ := List.mem_map.mp hx
    exact pk_of (hp y hy) (List.all_eq_true.mp hk y hy) p1 p2)
  have := p1.1
  have le := Nat.le_of_dvd (by omega) d
  have := Nat.mul_le_mul (show prodL (qs.map (·.1)) + 1 ≤ p by omega) (show prodL (qs.map (·.1)) + 1 ≤ p by omega)
  omega
theorem p61 : IsP 1321 ∧ IsP 331 ∧ IsP 151 ∧ IsP 61 := ⟨prime_by (f := 40) (by decide) (by decide) (by decide +kernel), prime_by (f := 40) (by decide) (by decide) (by decide +kernel), prime_by (f := 40) (by decide) (by decide) (by decide +kernel), prime_by (f := 40) (by decide) (by decide) (by decide +kernel)⟩
theorem prime_m61 : IsP 2305843009213693951 := isP_pock (f := 61) (by decide) [(1321, 3), (331, 3), (151, 3), (61, 2)] (by simp only [List.forall_mem_cons]; exact ⟨p61.1, p61.2.1, p61.2.2.1, p61.2.2.2, by simp⟩) (by decide +kernel) (by decide +kernel) (by decide +kernel)
theorem prime_m31 : IsP 2147483647 := isP_pock (f := 31) (by decide) [(331, 3), (151, 3)] (by simp only [List.forall_mem_cons]; exact ⟨p61.2.1, p61.2.2.1, by simp⟩) (by decide +kernel) (by decide +kernel) (by decide +kernel)
theorem pr_8574133 : IsP 8574133 := prime_by (f := 2928) (by decide) (by decide) (by decide +kernel)
theorem pr_127 : IsP 127 := prime_by (f := 11) (by decide) (by decide) (by decide +kernel)
theorem pr_1919519569386763 : IsP 1919519569386763 := isP_pock (f := 51) (by decide) [(8574133, 2), (127, 2)] (by simp only [List.forall_mem_cons]; exact ⟨pr_8574133, pr_127, by simp⟩) (by decide +kernel) (by decide +kernel) (by decide +kernel)
theorem pr_569003 : IsP 569003 := prime_by (f := 754) (by decide) (by decide) (by decide +kernel)
theorem pr_2773320623 : IsP 2773320623 := isP_pock (f := 32) (by decide) [(569003, 2)] (by simp only [List.forall_mem_cons]; exact ⟨pr_569003, by simp⟩) (by decide +kernel) (by decide +kernel) (by decide +kernel)
theorem pr_72106336199 : IsP 72106336199 := isP_pock (f := 37) (by decide) [(2773320623, 2)] (by simp only [List.forall_mem_cons]; exact ⟨pr_2773320623, by simp⟩) (by decide +kernel) (by decide +kernel) (by decide +kernel)
theorem pr_75445702479781427272750846543864801 : IsP 75445702479781427272750846543864801 := isP_pock (f := 116) (by decide) [(1919519569386763, 2), (72106336199, 2)] (by simp only [List.forall_mem_cons]; exact ⟨pr_1919519569386763, pr_72106336199, by simp⟩) (by decide +kernel) (by decide +kernel) (by decide +kernel)
theorem pr_430751 : IsP 430751 := prime_by (f := 656) (by decide) (by decide) (by decide +kernel)
theorem pr_4153 : IsP 4153 := prime_by (f := 64) (by decide) (by decide) (by decide +kernel)
theorem pr_31757755568855353 : IsP 31757755568855353 := isP_pock (f := 55) (by decide) [(430751, 2), (4153, 2)] (by simp only [List.forall_mem_cons]; exact ⟨pr_430751, pr_4153, by simp⟩) (by decide +kernel) (by decide +kernel) (by decide +kernel)
theorem pr_74058212732561358302231226437062788676166966415465897661863160754340907 : IsP 74058212732561358302231226437062788676166966415465897661863160754340907 := isP_pock (f := 236) (by decide) [(75445702479781427272750846543864801, 2), (31757755568855353, 2)] (by simp only [List.forall_mem_cons]; exact ⟨pr_75445702479781427272750846543864801, pr_31757755568855353, by simp⟩) (by decide +kernel) (by decide +kernel) (by decide +kernel)
theorem pr_57896044618658097711785492504343953926634992332820282019728792003956564819949 : IsP 57896044618658097711785492504343953926634992332820282019728792003956564819949 := isP_pock (f := 255) (by decide) [(74058212732561358302231226437062788676166966415465897661863160754340907, 2)] (by simp only [List.forall_mem_cons]; exact ⟨pr_74058212732561358302231226437062788676166966415465897661863160754340907, by simp⟩) (by decide +kernel) (by decide +kernel) (by decide +kernel)
theorem pr_53 : IsP 53 := prime_by (f := 7) (by decide) (by decide) (by decide +kernel)
theorem pr_29 : IsP 29 := prime_by (f := 5) (by decide) (by decide) (by decide +kernel)
theorem pr_7 : IsP 7 := prime_by (f := 2) (by decide) (by decide) (by decide +kernel)
theorem pr_107590001 : IsP 107590001 := isP_pock (f := 27) (by decide) [(53, 2), (29, 2), (7, 2)] (by simp only [List.forall_mem_cons]; exact ⟨pr_53, pr_29, pr_7, by simp⟩) (by decide +kernel) (by decide +kernel) (by decide +kernel)
theorem pr_7240687 : IsP 7240687 := prime_by (f := 2690) (by decide) (by decide) (by decide +kernel)
theorem pr_96557 : IsP 96557 := prime_by (f := 310) (by decide) (by decide) (by decide +kernel)
theorem pr_255515944373312847190720520512484175977 : IsP 255515944373312847190720520512484175977 := isP_pock (f := 128) (by decide) [(107590001, 2), (7240687, 2), (96557, 2)] (by simp only [List.forall_mem_cons]; exact ⟨pr_107590001, pr_7240687, pr_96557, by simp⟩) (by decide +kernel) (by decide +kernel) (by decide +kernel)
theorem pr_205115282021455665897114700593932402728804164701536103180137503955397371 : IsP 205115282021455665897114700593932402728804164701536103180137503955397371 := isP_pock (f := 237) (by decide) [(255515944373312847190720520512484175977, 2)] (by simp only [List.forall_mem_cons]; exact ⟨pr_255515944373312847190720520512484175977, by simp⟩) (by decide +kernel) (by decide +kernel) (by decide +kernel)
theorem pr_115792089237316195423570985008687907853269984665640564039457584007908834671663 : IsP 115792089237316195423570985008687907853269984665640564039457584007908834671663 := isP_pock (f := 256) (by decide) [(205115282021455665897114700593932402728804164701536103180137503955397371, 2)] (by simp only [List.forall_mem_cons]; exact ⟨pr_205115282021455665897114700593932402728804164701536103180137503955397371, by simp⟩) (by decide +kernel) (by decide +kernel) (by decide +kernel)
theorem pr_704251 : IsP 704251 := prime_by (f := 839) (by decide) (by decide) (by decide +kernel)
theorem pr_78283 : IsP 78283 := prime_by (f := 279) (by decide) (by decide) (by decide +kernel)
theorem pr_46076956964474543 : IsP 46076956964474543 := isP_pock (f := 56) (by decide) [(704251, 2), (78283, 2)] (by simp only [List.forall_mem_cons]; exact ⟨pr_704251, pr_78283, by simp⟩) (by decide +kernel) (by decide +kernel) (by decide +kernel)
theorem pr_3677 : IsP 3677 := prime_by (f := 60) (by decide) (by decide) (by decide +kernel)
theorem pr_197 : IsP 197 := prime_by (f := 14) (by decide) (by decide) (by decide +kernel)
theorem pr_66417393611 : IsP 66417393611 := isP_pock (f := 36) (by decide) [(3677, 2), (197, 2)] (by simp only [List.forall_mem_cons]; exact ⟨pr_3677, pr_197, by simp⟩) (by decide +kernel) (by decide +kernel) (by decide +kernel)
theorem pr_11290956913871 : IsP 11290956913871 := isP_pock (f := 44) (by decide) [(66417393611, 2)] (by simp only [List.forall_mem_cons]; exact ⟨pr_66417393611, by simp⟩) (by decide +kernel) (by decide +kernel) (by decide +kernel)
theorem pr_774023187263532362759620327192479577272145303 : IsP 774023187263532362759620327192479577272145303 := isP_pock (f := 150) (by decide) [(46076956964474543, 2), (11290956913871, 2)] (by simp only [List.forall_mem_cons]; exact ⟨pr_46076956964474543, pr_11290956913871, by simp⟩) (by decide +kernel) (by decide +kernel) (by decide +kernel)
theorem pr_835945042244614951780389953367877943453916927241 : IsP 835945042244614951780389953367877943453916927241 := isP_pock (f := 160) (by decide) [(774023187263532362759620327192479577272145303, 2)] (by simp only [List.forall_mem_cons]; exact ⟨pr_774023187263532362759620327192479577272145303, by simp⟩) (by decide +kernel) (by decide +kernel) (by decide +kernel)
theorem pr_115792089210356248762697446949407573530086143415290314195533631308867097853951 : IsP 115792089210356248762697446949407573530086143415290314195533631308867097853951 := isP_pock (f := 256) (by decide) [(835945042244614951780389953367877943453916927241, 2)] (by simp only [List.forall_mem_cons]; exact ⟨pr_835945042244614951780389953367877943453916927241, by simp⟩) (by decide +kernel) (by decide +kernel) (by decide +kernel)
end Mi
set_option maxHeartbeats 1000000
namespace Mi
/-! ### residues -/
theorem em_mul {p x y u v : Int} (h : x % p = u % p) (h2 : y % p = v % p) : x * y % p = u * v % p := by rw [Int.mul_emod, h, h2, ← Int.mul_emod]
theorem em_pow {p x u : Int} (h : x % p = u % p) : ∀ k : Nat, x ^ k % p = u ^ k % p
  | 0 => by rw [Int.pow_zero, Int.pow_zero]
  | k + 1 => by rw [Int.pow_succ, Int.pow_succ]; exact em_mul (em_pow h k) h
theorem em_em (x p : Int) : x % p % p = x % p := Int.emod_emod_of_dvd x (Int.dvd_refl p)
theorem em_dvd {p x y : Int} (h : x % p = y % p) : p ∣ x - y := Int.dvd_of_emod_eq_zero (Int.emod_eq_emod_iff_emod_sub_eq_zero.mp h)
theorem em_of_dvd {p x y : Int} (h : p ∣ x - y) : x % p = y % p := Int.emod_eq_emod_iff_emod_sub_eq_zero.mpr (Int.emod_eq_zero_of_dvd h)
theorem IsP.dvd_mulI {p : Nat} (h : IsP p) {a b : Int} (hd : (p : Int) ∣ a * b) : (p : Int) ∣ a ∨ (p : Int) ∣ b := by
  have := Int.natAbs_dvd_natAbs.mpr hd
  rw [Int.natAbs_mul, Int.natAbs_natCast] at this
  rcases h.dvd_mul this with q | q
  · exact .inl (Int.natAbs_dvd_natAbs.mp (by rw [Int.natAbs_natCast]; exact q))
  · exact .inr (Int.natAbs_dvd_natAbs.mp (by rw [Int.natAbs_natCast]; exact q))
theorem IsP.dvd_powI {p : Nat} (h : IsP p) {a : Int} : ∀ k : Nat, (p : Int) ∣ a ^ k → (p : Int) ∣ a
  | 0, hd => by
    rw [Int.pow_zero] at hd
    have := Int.le_of_dvd (by decide) hd
    have := h.1
    omega
  | k + 1, hd => by
    rw [Int.pow_succ] at hd
    rcases h.dvd_mulI hd with q | q
    · exact h.dvd_powI k q
    · exact q
theorem fermatI {p : Nat} (h : IsP p) {a : Int} (ha : ¬ (p : Int) ∣ a) : a ^ (p - 1) % p = 1 := by
  have h2 := h.1
  have e0 := Int.emod_nonneg a (show (p : Int) ≠ 0 by omega)
  obtain ⟨x, hx⟩ := Int.eq_ofNat_of_zero_le e0
  have hn : ¬ p ∣ x := fun d => by
    obtain ⟨k, rfl⟩ := d
    refine ha (Int.dvd_of_emod_eq_zero ?_)
    rw [← em_em a p, hx]
    exact Int.emod_eq_zero_of_dvd ⟨k, by show ((p * k : Nat) : Int) = _; rw [Int.natCast_mul]⟩
  have f := fermat h hn
  rw [em_pow (u := (x : Int)) (by rw [← hx, em_em])]
  rw [← Int.natCast_pow, ← Int.natCast_emod, f]; rfl
theorem sq_one {p : Nat} (h : IsP p) {x : Int} (hx : x * x % p = 1) : x % p = 1 ∨ x % p = p - 1 := by
  have h2 := h.1
  have o : (1 : Int) % p = 1 := Int.emod_eq_of_lt (by decide) (by omega)
  have d := em_dvd (p := p) (x := x * x) (y := 1) (by rw [hx, o])
  rw [show x * x - 1 = (x - 1) * (x - -1) by grind] at d
  rcases h.dvd_mulI d with q | q
  · left; rw [em_of_dvd q, o]
  · right
    rw [em_of_dvd q]
    have : (-1 : Int) = (p - 1 : Int) + p * (-1) := by omega
    rw [this, Int.add_mul_emod_self_left, Int.emod_eq_of_lt (by omega) (by omega)]
theorem m1_sq {p : Nat} (h : IsP p) {x : Int} (hx : x % p = p - 1) : x * x % p = 1 := by
  have h2 := h.1
  have o : (1 : Int) % p = 1 := Int.emod_eq_of_lt (by decide) (by omega)
  have hp : ((p : Int) - 1) % p = p - 1 := Int.emod_eq_of_lt (by omega) (by omega)
  rw [em_mul (hx.trans hp.symm) (hx.trans hp.symm), show ((p : Int) - 1) * (p - 1) = 1 + p * (p - 2) by grind, Int.add_mul_emod_self_left, o]
/-! ### a polynomial's roots -/
def evp : List Int → Int → Int
  | [], _ => 0
  | c :: cs, x => c + x * evp cs x
def dvp : List Int → Int → List Int
  | [], _ => []
  | [_], _ => []
  | _ :: d :: cs, r => evp (d :: cs) r :: dvp (d :: cs) r
theorem evp_dvp : ∀ (cs : List Int) (x r : Int), evp cs x - evp cs r = (x - r) * evp (dvp cs r) x
  | [], x, r => by simp [evp, dvp]
  | [c], x, r => by simp [evp, dvp]
  | c :: d :: cs, x, r => by
    have ih := evp_dvp (d :: cs) x r
    show c + x * evp (d :: cs) x - (c + r * evp (d :: cs) r) = (x - r) * (evp (d :: cs) r + x * evp (dvp (d :: cs) r) x)
    generalize evp (d :: cs) x = u at *
    generalize evp (d :: cs) r = v at *
    generalize evp (dvp (d :: cs) r) x = w at *
    have : u = v + (x - r) * w := by omega
    subst this
    grind
theorem dvp_len : ∀ (cs : List Int) (r : Int), (dvp cs r).length = cs.length - 1
  | [], r => rfl
  | [c], r => rfl
  | c :: d :: cs, r => by
    have ih := dvp_len (d :: cs) r
    simp only [dvp, List.length_cons] at *; omega
theorem dvp_top : ∀ (cs : List Int) (r : Int), 2 ≤ cs.length → cs.getLast? = some 1 → (dvp cs r).getLast? = some 1
  | [], r, h, _ => by simp at h
  | [c], r, h, _ => by simp at h
  | [c, d], r, _, h => by
    have : d = 1 := by simpa using h
    subst this
    simp [dvp, evp]
  | c :: d :: e :: cs, r, _, h => by
    have ih := dvp_top (d :: e :: cs) r (by simp) (by simpa using h)
    rw [dvp]
    have hn : dvp (d :: e :: cs) r ≠ [] := by simp [dvp]
    cases hq : dvp (d :: e :: cs) r with
    | nil => exact absurd hq hn
    | cons y ys => rw [hq] at ih; rw [List.getLast?_cons_cons]; exact ih
theorem roots_le {p : Nat} (h : IsP p) : ∀ (n : Nat) (cs : List Int), cs.length = n + 1 → cs.getLast? = some 1 → ∀ rs : List Int, rs.Pairwise (fun x y => ¬ (p : Int) ∣ y - x) → (∀ r ∈ rs, (p : Int) ∣ evp cs r) → rs.length ≤ n := by
  intro n
  induction n with
  | zero =>
    intro cs hl ht rs hp hr
    cases rs with
    | nil => exact Nat.le_refl 0
    | cons r rs =>
      match cs, hl with
      | [c], _ =>
        have : c = 1 := by simpa using ht
        subst this
        have d := hr r List.mem_cons_self
        have e : evp [1] r = 1 := by simp [evp]
        rw [e] at d
        have := Int.le_of_dvd (by decide) d
        have := h.1
        omega
  | succ n ih =>
    intro cs hl ht rs hp hr
    cases rs with
    | nil => exact Nat.zero_le _
    | cons r rs =>
      obtain ⟨h1, h2⟩ := List.pairwise_cons.mp hp
      have q := ih (dvp cs r) (by rw [dvp_len]; omega) (dvp_top cs r (by omega) ht) rs h2 fun s hs => by
        have d : (p : Int) ∣ evp cs s - evp cs r := Int.dvd_sub (hr s (List.mem_cons_of_mem _ hs)) (hr r List.mem_cons_self)
        rw [evp_dvp] at d
        exact (h.dvd_mulI d).resolve_left (h1 s hs)
      rw [List.length_cons]; omega
theorem evp_pow : ∀ (k : Nat) (x : Int), evp (List.replicate k 0 ++ [1]) x = x ^ k
  | 0, x => by simp [evp]
  | k + 1, x => by
    rw [List.replicate_succ, List.cons_append, evp, evp_pow k x, Int.pow_succ]; grind
/-- a number whose power is not 1 -/
theorem non_root {p : Nat} (h : IsP p) {k : Nat} (k0 : 0 < k) (hk : k < p - 1) : ∃ z : Nat, 1 ≤ z ∧ z < p ∧ (z : Int) ^ k % p ≠ 1 := by
  refine Classical.byContradiction fun c => ?_
  have all : ∀ z : Nat, 1 ≤ z → z < p → (z : Int) ^ k % p = 1 := fun z h1 h2 => Classical.byContradiction fun e => c ⟨z, h1, h2, e⟩
  have q := roots_le h k (-1 :: (List.replicate (k - 1) 0 ++ [1])) (by simp; omega) (by
    cases hq : (List.replicate (k - 1) 0 ++ [(1 : Int)]) with
    | nil => simp at hq
    | cons y ys => rw [List.getLast?_cons_cons, ← hq]; simp) ((List.range' 1 (p - 1)).map fun (z : Nat) => (z : Int)) (by
      refine List.pairwise_map.mpr (List.Pairwise.imp_of_mem (fun {x y} hx hy q d => ?_) (List.nodup_range' (s := 1) (n := p - 1)))
      have hx := List.mem_range'_1.mp hx
      have hy := List.mem_range'_1.mp hy
      have := Int.eq_zero_of_dvd_of_natAbs_lt_natAbs d (by omega)
      exact q (by omega)) (fun r hr => by
      obtain ⟨z, hz, rfl⟩ := List.mem_map.mp hr
      have hz := List.mem_range'_1.mp hz
      have e := all z hz.1 (by omega)
      have o : (1 : Int) % p = 1 := Int.emod_eq_of_lt (by decide) (by have := h.1; omega)
      have d := em_dvd (p := p) (x := (z : Int) ^ k) (y := 1) (by rw [e, o])
      show (p : Int) ∣ -1 + (z : Int) * evp (List.replicate (k - 1) 0 ++ [1]) z
      rw [evp_pow]
      have ek : (z : Int) * (z : Int) ^ (k - 1) = (z : Int) ^ k := by
        rw [Int.mul_comm, ← Int.pow_succ]; congr 1; omega
      rw [ek, show (-1 : Int) + (z : Int) ^ k = (z : Int) ^ k - 1 by omega]
      exact d)
  rw [List.length_map, List.length_range'] at q
  omega
/-- half the exponent: 1 or -1 -/
theorem half_pow {p : Nat} (h : IsP p) (ho : p % 2 = 1) {a : Int} (ha : ¬ (p : Int) ∣ a) : a ^ ((p - 1) / 2) % p = 1 ∨ a ^ ((p - 1) / 2) % p = p - 1 := by
  refine sq_one h ?_
  rw [← Int.pow_add, show (p - 1) / 2 + (p - 1) / 2 = p - 1 by omega]
  exact fermatI h ha
/-! ### the twos of a number -/
theorem low_and (o t : Nat) : (((2 * o + 1) * 2 ^ t) &&& ((2 * o + 1) * 2 ^ t - 1)) = 2 * o * 2 ^ t := by
  induction t with
  | zero =>
    rw [Nat.pow_zero, Nat.mul_one, Nat.mul_one, Nat.add_sub_cancel]
    have e1 := @Nat.and_div_two (2 * o + 1) (2 * o)
    have e2 := @Nat.and_mod_two_eq_one (2 * o + 1) (2 * o)
    rw [show (2 * o + 1) / 2 = o by omega, show 2 * o / 2 = o by omega, Nat.and_self] at e1
    omega
  | succ t ih =>
    have hp := Nat.two_pow_pos t
    have hm : 0 < (2 * o + 1) * 2 ^ t := Nat.mul_pos (by omega) hp
    have ep : (2 * o + 1) * 2 ^ (t + 1) = 2 * ((2 * o + 1) * 2 ^ t) := by rw [Nat.pow_succ]; ac_rfl
    have eq : 2 * o * 2 ^ (t + 1) = 2 * (2 * o * 2 ^ t) := by rw [Nat.pow_succ]; ac_rfl
    rw [ep, eq]
    generalize (2 * o + 1) * 2 ^ t = m at *
    have e1 := @Nat.and_div_two (2 * m) (2 * m - 1)
    have e2 := @Nat.and_mod_two_eq_one (2 * m) (2 * m - 1)
    rw [show 2 * m / 2 = m by omega, show (2 * m - 1) / 2 = m - 1 by omega, ih] at e1
    omega
theorem odd_part : ∀ n : Nat, 0 < n → ∃ o t, n = (2 * o + 1) * 2 ^ t := by
  intro n
  induction n using Nat.strongRecOn with
  | ind n ih =>
    intro h
    by_cases e : n % 2 = 1
    · exact ⟨n / 2, 0, by rw [Nat.pow_zero]; omega⟩
    · obtain ⟨o, t, q⟩ := ih (n / 2) (by omega) (by omega)
      exact ⟨o, t + 1, by rw [Nat.pow_succ, ← Nat.mul_assoc, ← q]; omega⟩
end Mi
set_option maxHeartbeats 1000000
namespace Mi
/-! ### residues as a ring -/
def zr (p : Nat) (x y : Int) : Prop := x % p = y % p
def Zp (p : Nat) : Type := Quot (zr p)
def zm (p : Nat) (x : Int) : Zp p := Quot.mk _ x
theorem zr_iff {p : Nat} {x y : Int} : zr p x y ↔ (p : Int) ∣ x - y := ⟨fun h => em_dvd h, fun h => em_of_dvd h⟩
section
variable {p : Nat}
def zadd : Zp p → Zp p → Zp p := Quot.lift (fun x => Quot.lift (fun y => zm p (x + y)) fun a b h => Quot.sound (by
  rw [zr_iff] at h ⊢; rw [show x + a - (x + b) = a - b by omega]; exact h)) fun a b h => by
  funext y
  induction y using Quot.ind
  refine Quot.sound ?_
  rw [zr_iff] at h ⊢
  rename_i y
  rw [show a + y - (b + y) = a - b by omega]; exact h
def zmul : Zp p → Zp p → Zp p := Quot.lift (fun x => Quot.lift (fun y => zm p (x * y)) fun a b h => Quot.sound (em_mul rfl h)) fun a b h => by
  funext y
  induction y using Quot.ind
  exact Quot.sound (em_mul h rfl)
def zneg : Zp p → Zp p := Quot.lift (fun x => zm p (-x)) fun a b h => Quot.sound (by
  rw [zr_iff] at h ⊢
  rw [show -a - -b = -(a - b) by omega]; exact Int.dvd_neg.mpr h)
instance : Add (Zp p) := ⟨zadd⟩
instance : Mul (Zp p) := ⟨zmul⟩
instance : Neg (Zp p) := ⟨zneg⟩
instance : Sub (Zp p) := ⟨fun x y => x + -y⟩
instance : NatCast (Zp p) := ⟨fun n => zm p (n : Int)⟩
instance : IntCast (Zp p) := ⟨fun n => zm p n⟩
instance (n : Nat) : OfNat (Zp p) n := ⟨zm p (n : Int)⟩
def zpow (x : Zp p) : Nat → Zp p
  | 0 => 1
  | n + 1 => zpow x n * x
instance : HPow (Zp p) Nat (Zp p) := ⟨zpow⟩
instance : SMul Nat (Zp p) := ⟨fun n x => (n : Zp p) * x⟩
instance : SMul Int (Zp p) := ⟨fun n x => (n : Zp p) * x⟩
theorem zm_add (x y : Int) : zm p (x + y) = zm p x + zm p y := rfl
theorem zm_mul (x y : Int) : zm p (x * y) = zm p x * zm p y := rfl
theorem zm_neg (x : Int) : zm p (-x) = -zm p x := rfl
theorem zm_sub (x y : Int) : zm p (x - y) = zm p x - zm p y := by
  rw [Int.sub_eq_add_neg]; rfl
theorem zm_eq {x y : Int} : zm p x = zm p y ↔ x % p = y % p := by
  refine ⟨fun h => ?_, fun h => Quot.sound h⟩
  have : ∀ z : Zp p, zm p x = z → Quot.lift (fun y => x % p = y % p) (fun a b h => by simp only [show a % (p : Int) = b % p from h]) z := by
    intro z e; subst e; rfl
  exact this _ h
theorem zm_num (n : Nat) : zm p (OfNat.ofNat n : Int) = (OfNat.ofNat n : Zp p) := rfl
theorem zm_nat (n : Nat) : zm p (n : Int) = (OfNat.ofNat n : Zp p) := rfl
theorem zm_mod (x : Int) : zm p (x % p) = zm p x := zm_eq.mpr (em_em _ _)
instance : Lean.Grind.CommRing (Zp p) where
  add_zero := fun a => Quot.inductionOn a (fun x => congrArg (zm p) (Int.add_zero x))
  add_comm := fun a b => Quot.inductionOn a (fun x => Quot.inductionOn b (fun y => congrArg (zm p) (Int.add_comm x y)))
  add_assoc := fun a b c => Quot.inductionOn a (fun x => Quot.inductionOn b (fun y => Quot.inductionOn c (fun z => congrArg (zm p) (Int.add_assoc x y z))))
  mul_assoc := fun a b c => Quot.inductionOn a (fun x => Quot.inductionOn b (fun y => Quot.inductionOn c (fun z => congrArg (zm p) (Int.mul_assoc x y z))))
  mul_one := fun a => Quot.inductionOn a (fun x => congrArg (zm p) (Int.mul_one x))
  one_mul := fun a => Quot.inductionOn a (fun x => congrArg (zm p) (Int.one_mul x))
  left_distrib := fun a b c => Quot.inductionOn a (fun x => Quot.inductionOn b (fun y => Quot.inductionOn c (fun z => congrArg (zm p) (Int.mul_add x y z))))
  right_distrib := fun a b c => Quot.inductionOn a (fun x => Quot.inductionOn b (fun y => Quot.inductionOn c (fun z => congrArg (zm p) (Int.add_mul x y z))))
  zero_mul := fun a => Quot.inductionOn a (fun x => congrArg (zm p) (Int.zero_mul x))
  mul_zero := fun a => Quot.inductionOn a (fun x => congrArg (zm p) (Int.mul_zero x))
  pow_zero := fun a => rfl
  pow_succ := fun a n => rfl
  ofNat_succ := fun n => rfl
  ofNat_eq_natCast := fun n => rfl
  nsmul_eq_natCast_mul := fun n a => rfl
  neg_add_cancel := fun a => Quot.inductionOn a (fun x => congrArg (zm p) (Int.add_left_neg x))
  sub_eq_add_neg := fun a b => rfl
  neg_zsmul := fun i a => Quot.inductionOn a (fun x => congrArg (zm p) (Int.neg_mul i x))
  zsmul_natCast_eq_nsmul := fun n a => rfl
  intCast_ofNat := fun n => rfl
  intCast_neg := fun i => rfl
  mul_comm := fun a b => Quot.inductionOn a (fun x => Quot.inductionOn b (fun y => congrArg (zm p) (Int.mul_comm x y)))
theorem zm_zero {x : Int} : zm p x = 0 ↔ x % p = 0 := by
  have : zm p x = zm p 0 ↔ _ := zm_eq
  rw [Int.zero_emod] at this
  exact this
theorem zm_pow (x : Int) : ∀ n : Nat, zm p (x ^ n) = zm p x ^ n
  | 0 => by rw [Int.pow_zero]; rfl
  | n + 1 => by
    rw [Int.pow_succ, zm_mul, zm_pow x n]; rfl
theorem zm_dvd {x : Int} : zm p x = 0 ↔ (p : Int) ∣ x := zm_zero.trans ⟨Int.dvd_of_emod_eq_zero, Int.emod_eq_zero_of_dvd⟩
theorem z_dom (h : IsP p) {x y : Zp p} (e : x * y = 0) : x = 0 ∨ y = 0 := by
  revert e
  refine Quot.inductionOn x (fun x => ?_)
  refine Quot.inductionOn y (fun y => ?_)
  intro e
  rcases h.dvd_mulI (zm_dvd.mp e) with q | q
  · exact .inl (zm_dvd.mpr q)
  · exact .inr (zm_dvd.mpr q)
theorem z_cancel (h : IsP p) {x y : Zp p} (hx : x ≠ 0) (e : x * y = 0) : y = 0 := (z_dom h e).resolve_left hx
theorem z_mul_ne (h : IsP p) {x y : Zp p} (hx : x ≠ 0) (hy : y ≠ 0) : x * y ≠ 0 := fun e => hy (z_cancel h hx e)
theorem z_inv0 (h : IsP p) (x : Int) (hx : zm p x ≠ 0) : zm p x ^ (p - 2) * zm p x = 1 := by
  have h2 := h.1
  have f := fermatI h (a := x) fun d => hx (zm_dvd.mpr d)
  rw [← zm_pow, ← zm_mul, ← Int.pow_succ, show (p - 2).succ = p - 1 by omega]
  exact (show zm p (x ^ (p - 1)) = zm p 1 from zm_eq.mpr (by rw [f, Int.emod_eq_of_lt (by decide) (by omega)]))
theorem z_inv (h : IsP p) {x : Zp p} : x ≠ 0 → x ^ (p - 2) * x = 1 := Quot.inductionOn x fun x hx => z_inv0 h x hx
theorem z_ne_num (n : Nat) (h0 : 0 < n) (h1 : n < p) : (OfNat.ofNat n : Zp p) ≠ 0 := by
  intro e
  have := zm_zero.mp (show zm p (n : Int) = 0 from e)
  rw [Int.emod_eq_of_lt (by omega) (by omega)] at this
  omega
/-- residues are equal if their classes are -/
theorem res_eq {x y : Int} (hx0 : 0 ≤ x) (hx1 : x < p) (hy0 : 0 ≤ y) (hy1 : y < p) (h : zm p x = zm p y) : x = y := by
  have := zm_eq.mp h
  rwa [Int.emod_eq_of_lt hx0 hx1, Int.emod_eq_of_lt hy0 hy1] at this
end
theorem z_test {p : Nat} (x y : Zp p) (h : x * x = y) : (x + 1) ^ 2 - 2 * x - 1 = y := by grind
end Mi
namespace Mi
theorem z_clos {p : Nat} (x1 y1 x2 y2 a b l i : Zp p) (h1 : y1*y1 = x1*x1*x1 + a*x1 + b) (h2 : y2*y2 = x2*x2*x2 + a*x2 + b) (hi : i*(x2-x1) = 1) (hl : l*(x2-x1) = (y2-y1))  : (l*(x1-(l*l - x1 - x2)) - y1)*(l*(x1-(l*l - x1 - x2)) - y1) = (l*l - x1 - x2)*(l*l - x1 - x2)*(l*l - x1 - x2) + a*(l*l - x1 - x2) + b := by
  have q : x1*x1 + x1*x2 + x2*x2 + a = l*(y1+y2) := by
    have : (x2-x1)*(x1*x1 + x1*x2 + x2*x2 + a - l*(y1+y2)) = 0 := by grind
    grind
  have e : y2 = y1 + l*(x2-x1) := by grind
  subst e
  grind
end Mi
set_option maxHeartbeats 1000000
namespace Mi
open PySem PySem.Spec L2
/-! ### sizes, found by themselves -/
class Bd (x : Int) (n : outParam Nat) : Prop where
  lt : x.natAbs < 2 ^ n
class Pb (p : Nat) : Prop where
  pos : 0 < p
  lt : p < 2 ^ 256
theorem Bd.up {x : Int} {m n : Nat} (h : x.natAbs < 2 ^ m) (e : m ≤ n) : x.natAbs < 2 ^ n := Nat.lt_of_lt_of_le h (Nat.pow_le_pow_right (by decide) e)
instance bd_mul {x y : Int} {a b : Nat} [h1 : Bd x a] [h2 : Bd y b] : Bd (x * y) (a + b) := ⟨by rw [Int.natAbs_mul]; exact pow_add_lt h1.lt h2.lt⟩
theorem two_sum {u v a b : Nat} (h1 : u < 2 ^ a) (h2 : v < 2 ^ b) : u + v < 2 ^ (max a b + 1) := by
  have := Nat.lt_of_lt_of_le h1 (Nat.pow_le_pow_right (show 0 < 2 by decide) (Nat.le_max_left a b))
  have := Nat.lt_of_lt_of_le h2 (Nat.pow_le_pow_right (show 0 < 2 by decide) (Nat.le_max_right a b))
  rw [Nat.pow_succ]; omega
instance bd_add {x y : Int} {a b : Nat} [h1 : Bd x a] [h2 : Bd y b] : Bd (x + y) (max a b + 1) := ⟨Nat.lt_of_le_of_lt (Int.natAbs_add_le x y) (two_sum h1.lt h2.lt)⟩
instance bd_sub {x y : Int} {a b : Nat} [h1 : Bd x a] [h2 : Bd y b] : Bd (x - y) (max a b + 1) := ⟨Nat.lt_of_le_of_lt (Int.natAbs_sub_le x y) (two_sum h1.lt h2.lt)⟩
instance bd_neg {x : Int} {a : Nat} [h1 : Bd x a] : Bd (-x) a := ⟨by rw [Int.natAbs_neg]; exact h1.lt⟩
instance bd_pow {x : Int} {a k : Nat} [h1 : Bd x a] : Bd (x ^ k) (a * k + 1) := ⟨by
  rw [Int.natAbs_pow]
  have : x.natAbs ^ k ≤ (2 ^ a) ^ k := Nat.pow_le_pow_left (Nat.le_of_lt h1.lt) k
  rw [← Nat.pow_mul] at this
  have : 2 ^ (a * k) < 2 ^ (a * k + 1) := Nat.pow_lt_pow_right (by decide) (by omega)
  omega⟩
instance : Bd (0 : Int) 8 := ⟨by decide⟩
instance : Bd (1 : Int) 8 := ⟨by decide⟩
instance : Bd (2 : Int) 8 := ⟨by decide⟩
instance : Bd (3 : Int) 8 := ⟨by decide⟩
instance : Bd (4 : Int) 8 := ⟨by decide⟩
instance : Bd (5 : Int) 8 := ⟨by decide⟩
instance : Bd (6 : Int) 8 := ⟨by decide⟩
instance : Bd (7 : Int) 8 := ⟨by decide⟩
instance : Bd (8 : Int) 8 := ⟨by decide⟩
instance : Bd (9 : Int) 8 := ⟨by decide⟩
instance : Bd (12 : Int) 8 := ⟨by decide⟩
instance : Bd (13 : Int) 8 := ⟨by decide⟩
instance : Bd (16 : Int) 8 := ⟨by decide⟩
instance : Bd (27 : Int) 8 := ⟨by decide⟩
instance : Bd (2147483648 : Int) 70 := ⟨by decide +kernel⟩
instance : Bd (4294967296 : Int) 70 := ⟨by decide +kernel⟩
instance : Bd (2305843009213693952 : Int) 70 := ⟨by decide +kernel⟩
instance : Bd (9223372036854775808 : Int) 70 := ⟨by decide +kernel⟩
instance : Bd (18446744073709551616 : Int) 70 := ⟨by decide +kernel⟩
instance : Bd (6277101735386680763835789423207666416102355444464034512896 : Int) 200 := ⟨by decide +kernel⟩
instance bd_p {p : Nat} [h : Pb p] : Bd (p : Int) 256 := ⟨by rw [Int.natAbs_natCast]; exact h.lt⟩
instance bd_mod {p : Nat} {x : Int} [h : Pb p] : Bd (x % (p : Int)) 256 := ⟨by
  have := h.pos; have := h.lt
  have := Int.emod_nonneg x (show (p : Int) ≠ 0 by omega)
  have := Int.emod_lt_of_pos x (show (0 : Int) < (p : Int) by omega)
  omega⟩
theorem need_bd {α : Type} {x y : Int} {a b : Nat} {m : Res α} [h1 : Bd x a] [h2 : Bd y b] (h : (decide (a + b ≤ 134217728)) = true) : Res.need (CMulX x y) m = m := Res.need_pos (cmulx h1.lt h2.lt (of_decide_eq_true h))
theorem need_pw2 {α : Type} {x : Int} {a : Nat} {m : Res α} [h1 : Bd x a] (h : (decide (a * 2 ≤ 134217728)) = true) : Res.need (CPowX x 2) m = m := Res.need_pos ⟨by decide, by
  have := le_ibits h1.lt
  have h := of_decide_eq_true h
  show ((Builtin.Int.intBits x : Nat) : Int) * 2 ≤ 134217728
  omega⟩
theorem need_pw3 {α : Type} {x : Int} {a : Nat} {m : Res α} [h1 : Bd x a] (h : (decide (a * 3 ≤ 134217728)) = true) : Res.need (CPowX x 3) m = m := Res.need_pos ⟨by decide, by
  have := le_ibits h1.lt
  have h := of_decide_eq_true h
  show ((Builtin.Int.intBits x : Nat) : Int) * 3 ≤ 134217728
  omega⟩
theorem need_pw4 {α : Type} {x : Int} {a : Nat} {m : Res α} [h1 : Bd x a] (h : (decide (a * 4 ≤ 134217728)) = true) : Res.need (CPowX x 4) m = m := Res.need_pos ⟨by decide, by
  have := le_ibits h1.lt
  have h := of_decide_eq_true h
  show ((Builtin.Int.intBits x : Nat) : Int) * 4 ≤ 134217728
  omega⟩
theorem need_pw6 {α : Type} {x : Int} {a : Nat} {m : Res α} [h1 : Bd x a] (h : (decide (a * 6 ≤ 134217728)) = true) : Res.need (CPowX x 6) m = m := Res.need_pos ⟨by decide, by
  have := le_ibits h1.lt
  have h := of_decide_eq_true h
  show ((Builtin.Int.intBits x : Nat) : Int) * 6 ≤ 134217728
  omega⟩
theorem need_p {α : Type} {p : Nat} {m : Res α} [h : Pb p] : Res.need (0 < (p : Int)) m = m := Res.need_pos (by have := h.pos; omega)
theorem need_true {α : Type} {m : Res α} : Res.need True m = m := Res.need_pos trivial
theorem tn2 : (2 : Int).toNat = 2 := rfl
theorem tn3 : (3 : Int).toNat = 3 := rfl
theorem tn4 : (4 : Int).toNat = 4 := rfl
theorem tn6 : (6 : Int).toNat = 6 := rfl
theorem bd_test {α : Type} {p : Nat} [Pb p] (x y : Int) [Bd x 256] [Bd y 256] (m : Res α) : Res.need (CMulX (x * y - 27 * x ^ 3) (y + (x * x * x) % (p : Int))) (Res.need (0 < (p : Int)) (Res.need (CPowX (x * y) 3) m)) = m := by
  simp (decide := true) only [need_bd, need_p, need_pw3]
end Mi
set_option maxHeartbeats 1000000
namespace Mi
/-! ### residues of a prime as a field -/
class Prm (p : Nat) : Prop where
  pr : IsP p
section
variable {p : Nat}
def zv : Zp p → Int := Quot.lift (fun x => x % (p : Int)) fun a b h => h
theorem zv_zm (x : Int) : zv (zm p x) = x % p := rfl
theorem zm_zv (x : Zp p) : zm p (zv x) = x := Quot.inductionOn x fun x => zm_mod x
theorem zv_ge [P : Prm p] (x : Zp p) : 0 ≤ zv x := Quot.inductionOn x fun x => Int.emod_nonneg _ (by have := P.pr.1; omega)
theorem zv_lt [P : Prm p] (x : Zp p) : zv x < p := Quot.inductionOn x fun x => Int.emod_lt_of_pos _ (by have := P.pr.1; omega)
theorem zv_inj {x y : Zp p} (h : zv x = zv y) : x = y := by rw [← zm_zv x, ← zm_zv y, h]
theorem zv_of {x : Int} (h0 : 0 ≤ x) (h1 : x < p) : zv (zm p x) = x := by rw [zv_zm, Int.emod_eq_of_lt h0 h1]
theorem zpow_zero' (n : Nat) (h : 0 < n) : (0 : Zp p) ^ n = 0 := by
  cases n with
  | zero => omega
  | succ n => show (0 : Zp p) ^ n * 0 = 0; grind
open Classical in
noncomputable def zinv (x : Zp p) : Zp p := if x = 0 then 0 else x ^ (p - 2)
noncomputable instance : Inv (Zp p) := ⟨zinv⟩
noncomputable instance : Div (Zp p) := ⟨fun x y => x * y⁻¹⟩
noncomputable def zzpow (x : Zp p) : Int → Zp p
  | .ofNat n => x ^ n
  | .negSucc n => (x ^ (n + 1))⁻¹
noncomputable instance : HPow (Zp p) Int (Zp p) := ⟨zzpow⟩
theorem z_inv_zero : (0 : Zp p)⁻¹ = 0 := by show zinv 0 = 0; unfold zinv; rw [if_pos rfl]
theorem z_one_inv [P : Prm p] : (1 : Zp p)⁻¹ = 1 := by
  show zinv 1 = 1
  unfold zinv
  split
  · rename_i h; exact h.symm
  · have : ∀ n : Nat, (1 : Zp p) ^ n = 1 := by
      intro n
      induction n with
      | zero => rfl
      | succ n ih => show (1 : Zp p) ^ n * 1 = 1; rw [ih]; grind
    exact this _
theorem z_mul_inv [P : Prm p] {x : Zp p} (h : x ≠ 0) : x * x⁻¹ = 1 := by
  show x * zinv x = 1
  unfold zinv
  rw [if_neg h]
  have := z_inv P.pr h
  grind
theorem z_inv_inv [P : Prm p] (x : Zp p) : x⁻¹⁻¹ = x := by
  by_cases h : x = 0
  · subst h; rw [z_inv_zero, z_inv_zero]
  · have a := z_mul_inv h
    have h' : x⁻¹ ≠ 0 := by
      intro e
      rw [e] at a
      have : (1 : Zp p) = 0 := by grind
      exact z_ne_num 1 (by decide) (by have := P.pr.1; omega) this
    have b := z_mul_inv h'
    have : x * (x⁻¹ * x⁻¹⁻¹) = x := by rw [b]; grind
    have t : x * (x⁻¹ * x⁻¹⁻¹) = (x * x⁻¹) * x⁻¹⁻¹ := by grind
    rw [t, a] at this
    grind
noncomputable instance [P : Prm p] : Lean.Grind.Field (Zp p) where
  toCommRing := inferInstance
  div_eq_mul_inv := fun a b => rfl
  zero_ne_one := fun h => z_ne_num (p := p) 1 (by decide) (by have := P.pr.1; omega) h.symm
  inv_zero := z_inv_zero
  mul_inv_cancel := fun h => z_mul_inv h
  zpow_zero := fun a => rfl
  zpow_succ := fun a n => rfl
  zpow_neg := fun a n => by
    cases n with
    | ofNat n =>
      cases n with
      | zero => exact z_one_inv.symm
      | succ n => rfl
    | negSucc n => exact (z_inv_inv _).symm
end
/-! ### multiples in a commutative group -/
section
open Lean.Grind
variable {M : Type} [AddCommGroup M]
def nsm (n : Nat) (a : M) : M := match n with
  | 0 => 0
  | n + 1 => nsm n a + a
def zsm (n : Int) (a : M) : M := match n with
  | .ofNat n => nsm n a
  | .negSucc n => -(nsm (n + 1) a)
theorem g_add_comm (a b : M) : a + b = b + a := AddCommMonoid.add_comm a b
theorem g_add_assoc (a b c : M) : a + b + c = a + (b + c) := AddCommMonoid.add_assoc a b c
theorem g_add_zero (a : M) : a + 0 = a := AddCommMonoid.add_zero a
theorem g_zero_add (a : M) : 0 + a = a := by rw [g_add_comm]; exact g_add_zero a
theorem g_neg_add (a : M) : -a + a = 0 := AddCommGroup.neg_add_cancel a
theorem g_add_neg (a : M) : a + -a = 0 := by rw [g_add_comm]; exact g_neg_add a
theorem g_cancel_r {a b c : M} (h : a + c = b + c) : a = b := by
  have := congrArg (fun z => z + -c) h
  simp only [g_add_assoc, g_add_neg, g_add_zero] at this
  exact this
theorem g_cancel_l {a b c : M} (h : c + a = c + b) : a = b := g_cancel_r (c := c) (by rw [g_add_comm a, g_add_comm b]; exact h)
theorem g_neg_eq {a b : M} (h : a + b = 0) : b = -a := g_cancel_l (c := a) (by rw [h, g_add_neg])
theorem g_neg_neg (a : M) : - -a = a := (g_neg_eq (g_neg_add a)).symm
theorem g_neg_addd (a b : M) : -(a + b) = -a + -b := (g_neg_eq (by
  rw [g_add_assoc, g_add_comm (-a), ← g_add_assoc b, g_add_neg, g_zero_add, g_add_neg])).symm
theorem g_neg_zero : -(0 : M) = 0 := (g_neg_eq (g_add_zero 0)).symm
theorem g_sub (a b : M) : a - b = a + -b := AddCommGroup.sub_eq_add_neg a b
theorem nsm_zero (a : M) : nsm 0 a = 0 := rfl
theorem nsm_succ (n : Nat) (a : M) : nsm (n + 1) a = nsm n a + a := rfl
theorem nsm_one (a : M) : nsm 1 a = a := g_zero_add a
theorem nsm_add (m n : Nat) (a : M) : nsm (m + n) a = nsm m a + nsm n a := by
  induction n with
  | zero => rw [Nat.add_zero, nsm_zero, g_add_zero]
  | succ n ih => rw [← Nat.add_assoc, nsm_succ, nsm_succ, ih, g_add_assoc]
theorem nsm_zero' (n : Nat) : nsm n (0 : M) = 0 := by
  induction n with
  | zero => rfl
  | succ n ih => rw [nsm_succ, ih, g_add_zero]
theorem nsm_addd (n : Nat) (a b : M) : nsm n (a + b) = nsm n a + nsm n b := by
  induction n with
  | zero => rw [nsm_zero, nsm_zero, nsm_zero, g_add_zero]
  | succ n ih => rw [nsm_succ, nsm_succ, nsm_succ, ih, g_add_assoc, g_add_assoc, ← g_add_assoc (nsm n b), ← g_add_assoc a, g_add_comm a (nsm n b)]
theorem nsm_mul (m n : Nat) (a : M) : nsm (m * n) a = nsm m (nsm n a) := by
  induction m with
  | zero => rw [Nat.zero_mul]; rfl
  | succ m ih => rw [Nat.succ_mul, nsm_add, ih, nsm_succ]
theorem nsm_neg (n : Nat) (a : M) : nsm n (-a) = -(nsm n a) := g_neg_eq (by rw [← nsm_addd, g_add_neg, nsm_zero'])
theorem zsm_nat (n : Nat) (a : M) : zsm (n : Int) a = nsm n a := rfl
theorem zsm_neg_nat (n : Nat) (a : M) : zsm (-(n : Int)) a = -(nsm n a) := by
  cases n with
  | zero => show nsm 0 a = -(nsm 0 a); rw [nsm_zero, g_neg_zero]
  | succ n => rfl
theorem zsm_neg (n : Int) (a : M) : zsm (-n) a = -(zsm n a) := by
  rcases Int.eq_nat_or_neg n with ⟨k, rfl | rfl⟩
  · rw [zsm_neg_nat, zsm_nat]
  · rw [Int.neg_neg, zsm_neg_nat, zsm_nat, g_neg_neg]
theorem zsm_negp (n : Int) (a : M) : zsm n (-a) = -(zsm n a) := by
  rcases Int.eq_nat_or_neg n with ⟨k, rfl | rfl⟩
  · rw [zsm_nat, zsm_nat, nsm_neg]
  · rw [zsm_neg_nat, zsm_neg_nat, nsm_neg]
theorem zsm_sub_nat (m n : Nat) (a : M) : zsm ((m : Int) - n) a = nsm m a + -(nsm n a) := by
  rcases Nat.le_total n m with h | h
  · obtain ⟨k, rfl⟩ := Nat.exists_eq_add_of_le h
    rw [show ((n + k : Nat) : Int) - n = (k : Int) by omega, zsm_nat, Nat.add_comm, nsm_add, g_add_assoc, g_add_neg, g_add_zero]
  · obtain ⟨k, rfl⟩ := Nat.exists_eq_add_of_le h
    rw [show (m : Int) - ((m + k : Nat) : Int) = -(k : Int) by omega, zsm_neg_nat, nsm_add, g_neg_addd, ← g_add_assoc, g_add_neg, g_zero_add]
theorem zsm_add (m n : Int) (a : M) : zsm (m + n) a = zsm m a + zsm n a := by
  rcases Int.eq_nat_or_neg m with ⟨k, rfl | rfl⟩ <;> rcases Int.eq_nat_or_neg n with ⟨l, rfl | rfl⟩
  · rw [← Int.natCast_add, zsm_nat, zsm_nat, zsm_nat, nsm_add]
  · rw [← Int.sub_eq_add_neg, zsm_sub_nat, zsm_nat, zsm_neg_nat]
  · rw [Int.add_comm, ← Int.sub_eq_add_neg, zsm_sub_nat, zsm_nat, zsm_neg_nat, g_add_comm]
  · rw [show -(k : Int) + -(l : Int) = -((k + l : Nat) : Int) by omega, zsm_neg_nat, zsm_neg_nat, zsm_neg_nat, nsm_add, g_neg_addd]
theorem zsm_addd (n : Int) (a b : M) : zsm n (a + b) = zsm n a + zsm n b := by
  rcases Int.eq_nat_or_neg n with ⟨k, rfl | rfl⟩
  · rw [zsm_nat, zsm_nat, zsm_nat, nsm_addd]
  · rw [zsm_neg_nat, zsm_neg_nat, zsm_neg_nat, nsm_addd, g_neg_addd]
theorem zsm_mul (m n : Int) (a : M) : zsm (m * n) a = zsm m (zsm n a) := by
  rcases Int.eq_nat_or_neg m with ⟨k, rfl | rfl⟩ <;> rcases Int.eq_nat_or_neg n with ⟨l, rfl | rfl⟩
  · rw [← Int.natCast_mul, zsm_nat, zsm_nat, zsm_nat, nsm_mul]
  · rw [Int.mul_neg, ← Int.natCast_mul, zsm_neg_nat, zsm_nat, zsm_neg_nat, nsm_neg, nsm_mul]
  · rw [Int.neg_mul, ← Int.natCast_mul, zsm_neg_nat, zsm_neg_nat, zsm_nat, nsm_mul]
  · rw [Int.neg_mul_neg, ← Int.natCast_mul, zsm_nat, zsm_neg_nat, zsm_neg_nat, nsm_neg, g_neg_neg, nsm_mul]
theorem zsm_zero (a : M) : zsm 0 a = 0 := rfl
theorem zsm_one (a : M) : zsm 1 a = a := nsm_one a
theorem zsm_zero' (n : Int) : zsm n (0 : M) = 0 := by
  rcases Int.eq_nat_or_neg n with ⟨k, rfl | rfl⟩
  · rw [zsm_nat, nsm_zero']
  · rw [zsm_neg_nat, nsm_zero', g_neg_zero]
theorem zsm_two (a : M) : zsm 2 a = a + a := by
  show nsm 2 a = _
  rw [nsm_succ, nsm_one]
end
end Mi
set_option maxHeartbeats 4000000
namespace Mi
open Lean.Grind
section
variable {F : Type} [Field F]
/-! ### the sum of points of a short Weierstrass curve, over any field -/
abbrev Pt (F : Type) := Option (F × F)
def OnC {R : Type} [CommRing R] (a b : R) : Pt R → Prop
  | none => True
  | some (x, y) => y * y = x * x * x + a * x + b
def pneg {R : Type} [CommRing R] : Pt R → Pt R
  | none => none
  | some (x, y) => some (x, -y)
open Classical in
noncomputable def padd (a : F) : Pt F → Pt F → Pt F
  | none, q => q
  | some p, none => some p
  | some (x1, y1), some (x2, y2) =>
    if x1 = x2 ∧ y1 + y2 = 0 then none
    else
      let l := if x1 = x2 then (3 * x1 * x1 + a) * (2 * y1)⁻¹ else (y2 - y1) * (x2 - x1)⁻¹
      some (l * l - x1 - x2, l * (x1 - (l * l - x1 - x2)) - y1)
open Classical in
theorem padd_eq (a x1 y1 x2 y2 : F) : padd a (some (x1, y1)) (some (x2, y2)) = if x1 = x2 ∧ y1 + y2 = 0 then none
    else
      let l := if x1 = x2 then (3 * x1 * x1 + a) * (2 * y1)⁻¹ else (y2 - y1) * (x2 - x1)⁻¹
      some (l * l - x1 - x2, l * (x1 - (l * l - x1 - x2)) - y1) := rfl
/-- l is the slope of the line through both -/
def Slp (a x1 y1 x2 y2 l : F) : Prop := y2 - y1 = l * (x2 - x1) ∧ l * (y1 + y2) = x1 * x1 + x1 * x2 + x2 * x2 + a
theorem f_dom {x y : F} (h : x * y = 0) : x = 0 ∨ y = 0 := by
  by_cases hx : x = 0
  · exact .inl hx
  · refine .inr ?_
    have := Field.mul_inv_cancel hx
    grind
theorem f_cancel {x y : F} (hx : x ≠ 0) (h : x * y = 0) : y = 0 := (f_dom h).resolve_left hx
theorem slp_ex {a b x1 y1 x2 y2 : F} (h2 : (2 : F) ≠ 0) (o1 : OnC a b (some (x1, y1))) (o2 : OnC a b (some (x2, y2))) (hn : ¬ (x1 = x2 ∧ y1 + y2 = 0)) :
    ∃ l, Slp a x1 y1 x2 y2 l ∧ padd a (some (x1, y1)) (some (x2, y2)) = some (l * l - x1 - x2, l * (x1 - (l * l - x1 - x2)) - y1) := by
  have o1 : y1 * y1 = x1 * x1 * x1 + a * x1 + b := o1
  have o2 : y2 * y2 = x2 * x2 * x2 + a * x2 + b := o2
  by_cases hx : x1 = x2
  · subst hx
    have hs : y1 + y2 ≠ 0 := fun e => hn ⟨rfl, e⟩
    have hy : y1 = y2 := by
      have : (y1 + y2) * (y1 - y2) = 0 := by grind
      have := f_cancel hs this
      grind
    subst hy
    have h0 : 2 * y1 ≠ 0 := by grind
    have iv := Field.mul_inv_cancel h0
    refine ⟨(3 * x1 * x1 + a) * (2 * y1)⁻¹, ⟨by grind, by grind⟩, ?_⟩
    rw [padd_eq, if_neg hn, if_pos rfl]
  · have h0 : x2 - x1 ≠ 0 := by grind
    have iv := Field.mul_inv_cancel h0
    refine ⟨(y2 - y1) * (x2 - x1)⁻¹, ⟨by grind, ?_⟩, ?_⟩
    · have : (x2 - x1) * ((y2 - y1) * (x2 - x1)⁻¹ * (y1 + y2) - (x1 * x1 + x1 * x2 + x2 * x2 + a)) = 0 := by grind
      have := f_cancel h0 this
      grind
    · rw [padd_eq, if_neg hn, if_neg hx]
theorem slp_uniq {a b x1 y1 x2 y2 l m : F} (o1 : OnC a b (some (x1, y1))) (o2 : OnC a b (some (x2, y2))) (hn : ¬ (x1 = x2 ∧ y1 + y2 = 0)) (h1 : Slp a x1 y1 x2 y2 l) (h2 : Slp a x1 y1 x2 y2 m) : l = m := by
  obtain ⟨a1, a2⟩ := h1
  obtain ⟨b1, b2⟩ := h2
  by_cases hx : x1 = x2
  · have hs : y1 + y2 ≠ 0 := fun e => hn ⟨hx, e⟩
    have : (y1 + y2) * (l - m) = 0 := by grind
    have := f_cancel hs this
    grind
  · have h0 : x2 - x1 ≠ 0 := by grind
    have : (x2 - x1) * (l - m) = 0 := by grind
    have := f_cancel h0 this
    grind
theorem padd_slp {a b x1 y1 x2 y2 l : F} (h2 : (2 : F) ≠ 0) (o1 : OnC a b (some (x1, y1))) (o2 : OnC a b (some (x2, y2))) (hn : ¬ (x1 = x2 ∧ y1 + y2 = 0)) (h : Slp a x1 y1 x2 y2 l) :
    padd a (some (x1, y1)) (some (x2, y2)) = some (l * l - x1 - x2, l * (x1 - (l * l - x1 - x2)) - y1) := by
  obtain ⟨m, hm, e⟩ := slp_ex h2 o1 o2 hn
  have := slp_uniq o1 o2 hn h hm
  subst this
  exact e
theorem slp_on {a b x1 y1 x2 y2 l : F} (o1 : OnC a b (some (x1, y1))) (h : Slp a x1 y1 x2 y2 l) : OnC a b (some (l * l - x1 - x2, l * (x1 - (l * l - x1 - x2)) - y1)) := by
  have o1 : y1 * y1 = x1 * x1 * x1 + a * x1 + b := o1
  obtain ⟨a1, a2⟩ := h
  show (l * (x1 - (l * l - x1 - x2)) - y1) * (l * (x1 - (l * l - x1 - x2)) - y1) = (l * l - x1 - x2) * (l * l - x1 - x2) * (l * l - x1 - x2) + a * (l * l - x1 - x2) + b
  have e : y2 = y1 + l * (x2 - x1) := by grind
  subst e
  have ea : a = l * (y1 + (y1 + l * (x2 - x1))) - x1 * x1 - x1 * x2 - x2 * x2 := by grind
  subst ea
  grind
theorem on_neg' {a b : F} {P : Pt F} (h : OnC a b P) : OnC a b (pneg P) := by
  cases P with
  | none => exact trivial
  | some p =>
    obtain ⟨x, y⟩ := p
    have h : y * y = x * x * x + a * x + b := h
    show -y * -y = x * x * x + a * x + b
    grind
theorem pneg_pneg (P : Pt F) : pneg (pneg P) = P := by
  cases P with
  | none => rfl
  | some p =>
    obtain ⟨x, y⟩ := p
    show some (x, - -y) = some (x, y)
    rw [show - -y = y by grind]
theorem padd_zero (a : F) (P : Pt F) : padd a P none = P := by
  cases P <;> rfl
theorem zero_padd (a : F) (P : Pt F) : padd a none P = P := rfl
theorem padd_neg (a : F) (P : Pt F) : padd a P (pneg P) = none := by
  cases P with
  | none => rfl
  | some p =>
    obtain ⟨x, y⟩ := p
    show padd a (some (x, y)) (some (x, -y)) = none
    rw [padd_eq, if_pos ⟨rfl, by grind⟩]
theorem neg_padd (a : F) (P : Pt F) : padd a (pneg P) P = none := by
  have := padd_neg a (pneg P)
  rwa [pneg_pneg] at this
theorem padd_none {a : F} {P Q : Pt F} (h : padd a P Q = none) : Q = pneg P := by
  cases P with
  | none => exact h
  | some p =>
    cases Q with
    | none => cases h
    | some q =>
      obtain ⟨x1, y1⟩ := p
      obtain ⟨x2, y2⟩ := q
      rw [padd_eq] at h
      by_cases c : x1 = x2 ∧ y1 + y2 = 0
      · show some (x2, y2) = some (x1, -y1)
        rw [c.1, show y2 = -y1 by grind]
      · rw [if_neg c] at h
        cases h
theorem padd_on {a b : F} (h2 : (2 : F) ≠ 0) {P Q : Pt F} (hP : OnC a b P) (hQ : OnC a b Q) : OnC a b (padd a P Q) := by
  cases P with
  | none => exact hQ
  | some p =>
    cases Q with
    | none => exact hP
    | some q =>
      obtain ⟨x1, y1⟩ := p
      obtain ⟨x2, y2⟩ := q
      by_cases c : x1 = x2 ∧ y1 + y2 = 0
      · rw [padd_eq, if_pos c]; exact trivial
      · obtain ⟨l, s, e⟩ := slp_ex h2 hP hQ c
        rw [e]
        exact slp_on hP s
theorem slp_symm {a x1 y1 x2 y2 l : F} (h : Slp a x1 y1 x2 y2 l) : Slp a x2 y2 x1 y1 l := by
  obtain ⟨a1, a2⟩ := h
  exact ⟨by grind, by grind⟩
theorem padd_comm {a b : F} (h2 : (2 : F) ≠ 0) {P Q : Pt F} (hP : OnC a b P) (hQ : OnC a b Q) : padd a P Q = padd a Q P := by
  cases P with
  | none => exact (padd_zero a Q).symm
  | some p =>
    cases Q with
    | none => rfl
    | some q =>
      obtain ⟨x1, y1⟩ := p
      obtain ⟨x2, y2⟩ := q
      by_cases c : x1 = x2 ∧ y1 + y2 = 0
      · have c' : x2 = x1 ∧ y2 + y1 = 0 := ⟨c.1.symm, by have := c.2; grind⟩
        rw [padd_eq, padd_eq, if_pos c, if_pos c']
      · have c' : ¬ (x2 = x1 ∧ y2 + y1 = 0) := fun z => c ⟨z.1.symm, by have := z.2; grind⟩
        obtain ⟨l, s, e⟩ := slp_ex h2 hP hQ c
        rw [e, padd_slp h2 hQ hP c' (slp_symm s), show l * l - x2 - x1 = l * l - x1 - x2 by grind]
        have := s.1
        congr 2
        grind
theorem pneg_padd {a b : F} (h2 : (2 : F) ≠ 0) {P Q : Pt F} (hP : OnC a b P) (hQ : OnC a b Q) : pneg (padd a P Q) = padd a (pneg P) (pneg Q) := by
  cases P with
  | none => rfl
  | some p =>
    cases Q with
    | none => rfl
    | some q =>
      obtain ⟨x1, y1⟩ := p
      obtain ⟨x2, y2⟩ := q
      by_cases c : x1 = x2 ∧ y1 + y2 = 0
      · have c' : x1 = x2 ∧ -y1 + -y2 = 0 := ⟨c.1, by have := c.2; grind⟩
        show pneg (padd a (some (x1, y1)) (some (x2, y2))) = padd a (some (x1, -y1)) (some (x2, -y2))
        rw [padd_eq, padd_eq, if_pos c, if_pos c']; rfl
      · have c' : ¬ (x1 = x2 ∧ -y1 + -y2 = 0) := fun z => c ⟨z.1, by have := z.2; grind⟩
        obtain ⟨l, s, e⟩ := slp_ex h2 hP hQ c
        have s' : Slp a x1 (-y1) x2 (-y2) (-l) := ⟨by have := s.1; grind, by have := s.2; grind⟩
        have e' := padd_slp h2 (on_neg' hP) (on_neg' hQ) c' s'
        show pneg (padd a (some (x1, y1)) (some (x2, y2))) = padd a (some (x1, -y1)) (some (x2, -y2))
        rw [e, e', show -l * -l = l * l by grind]
        show some (_, _) = some (_, _)
        congr 2
        grind
/-- the curve has no double point -/
def NoSing {R : Type} [CommRing R] (a b : R) : Prop := 4 * a * a * a + 27 * b * b ≠ 0
theorem NoSing.ns {a b x : F} (h : NoSing a b) (o : OnC a b (some (x, 0))) (hd : 3 * x * x + a = 0) : False := by
  have o : (0 : F) * 0 = x * x * x + a * x + b := o
  apply h
  have ea : a = -(3 * x * x) := by grind
  have eb : b = 2 * x * x * x := by grind
  subst ea eb
  grind
theorem padd_cancel {a b : F} (h2 : (2 : F) ≠ 0) (N : NoSing a b) {P Q : Pt F} (hP : OnC a b P) (hQ : OnC a b Q) : padd a (padd a P Q) (pneg Q) = P := by
  cases P with
  | none => exact padd_neg a Q
  | some p =>
    cases Q with
    | none => rfl
    | some q =>
      obtain ⟨x1, y1⟩ := p
      obtain ⟨x2, y2⟩ := q
      by_cases c : x1 = x2 ∧ y1 + y2 = 0
      · have : padd a (some (x1, y1)) (some (x2, y2)) = none := by rw [padd_eq, if_pos c]
        rw [this]
        show some (x2, -y2) = some (x1, y1)
        rw [c.1, show y1 = -y2 by have := c.2; grind]
      · obtain ⟨l, s, e⟩ := slp_ex h2 hP hQ c
        have o3 := slp_on hP s
        rw [e]
        obtain ⟨s1, s2⟩ := s
        have oq : y2 * y2 = x2 * x2 * x2 + a * x2 + b := hQ
        generalize hx3 : l * l - x1 - x2 = x3 at *
        generalize hy3 : l * (x1 - x3) - y1 = y3 at *
        have s' : Slp a x3 y3 x2 (-y2) (-l) := by
          refine ⟨by grind, ?_⟩
          have : l * (y2 - y3) = x3 * x3 + x3 * x2 + x2 * x2 + a := by
            have e3 : y3 = l * (x2 - x3) - y2 := by grind
            have ea : a = l * (y1 + y2) - x1 * x1 - x1 * x2 - x2 * x2 := by grind
            have e1 : y1 = y2 - l * (x2 - x1) := by grind
            have ex : x1 = l * l - x2 - x3 := by grind
            subst e3 ea e1 ex
            grind
          grind
        have c' : ¬ (x3 = x2 ∧ y3 + -y2 = 0) := by
          intro z
          obtain ⟨z1, z2⟩ := z
          have t1 : 2 * y2 = 0 := by
            have := s'.1
            subst z1
            grind
          have y0 : y2 = 0 := f_cancel h2 t1
          have t2 := s'.2
          subst z1
          subst y0
          exact N.ns hQ (by grind)
        show padd a (some (x3, y3)) (some (x2, -y2)) = _
        rw [padd_slp h2 o3 (on_neg' hQ) c' s', show -l * -l - x3 - x2 = x1 by grind]
        congr 2
        grind
theorem padd_inj {a b : F} (h2 : (2 : F) ≠ 0) (N : NoSing a b) {P P' Q : Pt F} (hP : OnC a b P) (hP' : OnC a b P') (hQ : OnC a b Q) (e : padd a P Q = padd a P' Q) : P = P' := by
  rw [← padd_cancel h2 N hP hQ, e, padd_cancel h2 N hP' hQ]
/-! ### associativity -/
theorem as_x {x1 x2 x3 y2 l m N1 N2 D1 D2 : F}
  (E : 2 * y2 * (l - m) = m * m * (x3 - x2) - l * l * (x1 - x2) + x1 * x1 + x1 * x2 - x2 * x3 - x3 * x3)
  (hD1 : D1 = x3 - (l * l - x1 - x2)) (hD2 : D2 = x1 - (m * m - x2 - x3))
  (hN1 : N1 = 2 * y2 + m * (x3 - x2) - l * (x2 - (l * l - x1 - x2)))
  (hN2 : N2 = 2 * y2 + l * (x1 - x2) - m * (x2 - (m * m - x2 - x3))) :
  N1 * N1 * D2 * D2 - N2 * N2 * D1 * D1 = (l * l - m * m + 2 * x3 - 2 * x1) * D1 * D1 * D2 * D2 := by
  subst hD1 hD2 hN1 hN2
  grind
theorem as_y {x1 x2 x3 y1 y2 y3 l m N1 N2 D1 D2 : F}
  (E : 2 * y2 * (l - m) = m * m * (x3 - x2) - l * l * (x1 - x2) + x1 * x1 + x1 * x2 - x2 * x3 - x3 * x3)
  (hD1 : D1 = x3 - (l * l - x1 - x2)) (hD2 : D2 = x1 - (m * m - x2 - x3))
  (hN1 : N1 = 2 * y2 + m * (x3 - x2) - l * (x2 - (l * l - x1 - x2)))
  (hN2 : N2 = 2 * y2 + l * (x1 - x2) - m * (x2 - (m * m - x2 - x3)))
  (h1 : y1 = y2 + l * (x1 - x2)) (h3 : y3 = y2 + m * (x3 - x2)) :
  N1 * D2 * (2 * x3 * D1 * D1 + (l * l - x1 - x2) * D1 * D1 - N1 * N1) - N2 * D1 * (x1 * D1 * D1 + x3 * D1 * D1 + (l * l - x1 - x2) * D1 * D1 - N1 * N1) = (y3 - y1) * D1 * D1 * D1 * D2 := by
  subst hD1 hD2 hN1 hN2 h1 h3
  grind
theorem xx_aux {l m l2 m2 D1 D2 x1 x3 : F} (X : l2 * D1 * (l2 * D1) * D2 * D2 - m2 * D2 * (m2 * D2) * D1 * D1 = (l * l - m * m + 2 * x3 - 2 * x1) * D1 * D1 * D2 * D2) :
    D1 * (D1 * (D2 * (D2 * (l2 * l2 - m2 * m2 - (l * l - m * m + 2 * x3 - 2 * x1))))) = 0 := by grind
theorem xx_aux2 {l m l2 m2 x1 x2 x3 x4 x6 : F} (e : l2 * l2 - m2 * m2 - (l * l - m * m + 2 * x3 - 2 * x1) = 0) (h4 : l * l - x1 - x2 = x4) (h6 : m * m - x2 - x3 = x6) : l2 * l2 - x4 - x3 = m2 * m2 - x1 - x6 := by grind
theorem yy_aux2 {l2 m2 x1 x3 x4 y1 y3 y4 x : F} (e : l2 * (x3 - x) - m2 * (x1 - x) - (y3 - y1) = 0) (u1 : y3 - y4 = l2 * (x3 - x4)) : l2 * (x4 - x) - y4 = m2 * (x1 - x) - y1 := by grind
theorem yy_aux {l2 m2 D1 D2 x1 x3 x4 y1 y3 : F} (Y : l2 * D1 * D2 * (2 * x3 * D1 * D1 + x4 * D1 * D1 - l2 * D1 * (l2 * D1)) - m2 * D2 * D1 * (x1 * D1 * D1 + x3 * D1 * D1 + x4 * D1 * D1 - l2 * D1 * (l2 * D1)) = (y3 - y1) * D1 * D1 * D1 * D2) :
    D1 * (D1 * (D1 * (D2 * (l2 * (x3 - (l2 * l2 - x4 - x3)) - m2 * (x1 - (l2 * l2 - x4 - x3)) - (y3 - y1))))) = 0 := by grind
theorem as_gen {a b x1 y1 x2 y2 x3 y3 x4 y4 x6 y6 : F} (h2 : (2 : F) ≠ 0) (o1 : OnC a b (some (x1, y1))) (o2 : OnC a b (some (x2, y2))) (o3 : OnC a b (some (x3, y3)))
    (eS : padd a (some (x1, y1)) (some (x2, y2)) = some (x4, y4)) (eT : padd a (some (x2, y2)) (some (x3, y3)) = some (x6, y6)) (n1 : x4 ≠ x3) (n2 : x1 ≠ x6) :
    padd a (some (x4, y4)) (some (x3, y3)) = padd a (some (x1, y1)) (some (x6, y6)) := by
  have c1 : ¬ (x1 = x2 ∧ y1 + y2 = 0) := fun z => by rw [padd_eq, if_pos z] at eS; cases eS
  have c2 : ¬ (x2 = x3 ∧ y2 + y3 = 0) := fun z => by rw [padd_eq, if_pos z] at eT; cases eT
  have o4 : OnC a b (some (x4, y4)) := by rw [← eS]; exact padd_on h2 o1 o2
  have o6 : OnC a b (some (x6, y6)) := by rw [← eT]; exact padd_on h2 o2 o3
  obtain ⟨l, sl, el⟩ := slp_ex h2 o1 o2 c1
  obtain ⟨m, sm, em⟩ := slp_ex h2 o2 o3 c2
  have c3 : ¬ (x4 = x3 ∧ y4 + y3 = 0) := fun z => n1 z.1
  have c4 : ¬ (x1 = x6 ∧ y1 + y6 = 0) := fun z => n2 z.1
  obtain ⟨l2, sl2, el2⟩ := slp_ex h2 o4 o3 c3
  obtain ⟨m2, sm2, em2⟩ := slp_ex h2 o1 o6 c4
  rw [el2, em2]
  rw [el] at eS
  rw [em] at eT
  have e4 := Option.some.inj eS
  have e6 := Option.some.inj eT
  have x4e : l * l - x1 - x2 = x4 := congrArg Prod.fst e4
  have y4e := congrArg Prod.snd e4
  have x6e : m * m - x2 - x3 = x6 := congrArg Prod.fst e6
  have y6e := congrArg Prod.snd e6
  dsimp only at y4e y6e
  rw [x4e] at y4e
  rw [x6e] at y6e
  clear eS eT e4 e6 el em el2 em2 o1 o2 o3 o4 o6 c1 c2 c3 c4
  obtain ⟨s1, s2⟩ := sl
  obtain ⟨t1, t2⟩ := sm
  have u1 := sl2.1
  have v1 := sm2.1
  clear sl2 sm2
  have h1 : y1 = y2 + l * (x1 - x2) := by grind
  have h3 : y3 = y2 + m * (x3 - x2) := by grind
  have E : 2 * y2 * (l - m) = m * m * (x3 - x2) - l * l * (x1 - x2) + x1 * x1 + x1 * x2 - x2 * x3 - x3 * x3 := by
    have q : l * (y1 + y2) - m * (y2 + y3) = x1 * x1 + x1 * x2 - x2 * x3 - x3 * x3 := by grind
    rw [h1, h3] at q
    grind
  have hD1 : x3 - x4 = x3 - (l * l - x1 - x2) := by rw [x4e]
  have hD2 : x1 - x6 = x1 - (m * m - x2 - x3) := by rw [x6e]
  have hN1 : l2 * (x3 - x4) = 2 * y2 + m * (x3 - x2) - l * (x2 - (l * l - x1 - x2)) := by rw [x4e]; grind
  have hN2 : m2 * (x1 - x6) = 2 * y2 + l * (x1 - x2) - m * (x2 - (m * m - x2 - x3)) := by rw [x6e]; grind
  have X := as_x E hD1 hD2 hN1 hN2
  have Y := as_y E hD1 hD2 hN1 hN2 h1 h3
  rw [x4e] at Y
  have d1 : x3 - x4 ≠ 0 := by grind
  have d2 : x1 - x6 ≠ 0 := by grind
  generalize hp : x3 - x4 = D1 at *
  generalize hq : x1 - x6 = D2 at *
  have xx : l2 * l2 - x4 - x3 = m2 * m2 - x1 - x6 := xx_aux2 (f_cancel d2 (f_cancel d2 (f_cancel d1 (f_cancel d1 (xx_aux X))))) x4e x6e
  have yy : l2 * (x4 - (l2 * l2 - x4 - x3)) - y4 = m2 * (x1 - (m2 * m2 - x1 - x6)) - y1 := by
    rw [← xx]
    exact yy_aux2 (f_cancel d2 (f_cancel d1 (f_cancel d1 (f_cancel d1 (yy_aux Y))))) (by rw [hp]; exact u1)
  rw [yy, xx]
/-- (P+P)+R, but for one case -/
theorem as_dbl0 {a b : F} (h2 : (2 : F) ≠ 0) (N : NoSing a b) {P R : Pt F} (hP : OnC a b P) (hR : OnC a b R) (hn : padd a P P ≠ R) : padd a (padd a P P) R = padd a P (padd a P R) := by
  have nP := on_neg' hP
  have PP := padd_on h2 hP hP
  have nPP := padd_on h2 nP nP
  -- what is trivial
  by_cases e1 : padd a P P = none
  · have q := padd_none e1
    rw [e1, zero_padd]
    have : padd a P (padd a P R) = padd a (padd a R P) (pneg P) := by
      rw [padd_comm h2 hP (padd_on h2 hP hR), padd_comm h2 hP hR]
      rw [← q]
    rw [this, padd_cancel h2 N hR hP]
  by_cases e2 : padd a P R = none
  · have q := padd_none e2
    rw [e2, padd_zero, q]
    exact padd_cancel h2 N hP hP
  by_cases e3 : padd a (padd a P P) R = none
  · have q := padd_none e3
    rw [e3, q, pneg_padd h2 hP hP]
    have : padd a P (padd a (pneg P) (pneg P)) = pneg P := by
      rw [padd_comm h2 hP nPP]
      have := padd_cancel h2 N nP nP
      rwa [pneg_pneg] at this
    rw [this, padd_neg]
  by_cases e4 : padd a P (padd a P R) = none
  · have q := padd_none e4
    have : R = padd a (pneg P) (pneg P) := by
      have t := padd_cancel h2 N hR hP
      rw [padd_comm h2 hR hP, q] at t
      exact t.symm
    rw [e4, this, ← pneg_padd h2 hP hP, padd_neg]
  cases P with
  | none => rfl
  | some p =>
    cases R with
    | none => rw [padd_zero, padd_zero]
    | some r =>
      obtain ⟨x1, y1⟩ := p
      obtain ⟨x3, y3⟩ := r
      cases eS : padd a (some (x1, y1)) (some (x1, y1)) with
      | none => exact absurd eS e1
      | some s =>
        cases eT : padd a (some (x1, y1)) (some (x3, y3)) with
        | none => exact absurd eT e2
        | some t =>
          obtain ⟨x4, y4⟩ := s
          obtain ⟨x6, y6⟩ := t
          rw [eS] at e3 hn
          rw [eT] at e4
          have o4 : OnC a b (some (x4, y4)) := by rw [← eS]; exact PP
          have o6 : OnC a b (some (x6, y6)) := by rw [← eT]; exact padd_on h2 hP hR
          have same : ∀ {x y y' : F}, OnC a b (some (x, y)) → OnC a b (some (x, y')) → y = y' ∨ y + y' = 0 := by
            intro x y y' p q
            have p : y * y = x * x * x + a * x + b := p
            have q : y' * y' = x * x * x + a * x + b := q
            have : (y - y') * (y + y') = 0 := by grind
            rcases f_dom this with h | h
            · exact .inl (by grind)
            · exact .inr h
          have n1 : x4 ≠ x3 := by
            intro z
            subst z
            rcases same o4 hR with h | h
            · subst h; exact hn rfl
            · exact e3 (by rw [padd_eq, if_pos ⟨rfl, h⟩])
          have n2 : x1 ≠ x6 := by
            intro z
            subst z
            rcases same hP o6 with h | h
            · subst h
              -- P + R = P
              have q : padd a (some (x3, y3)) (some (x1, y1)) = padd a none (some (x1, y1)) := by
                rw [padd_comm h2 hR hP, eT]; rfl
              have := padd_inj h2 N hR (show OnC a b none from trivial) hP q
              cases this
            · exact e4 (by rw [padd_eq, if_pos ⟨rfl, h⟩])
          exact as_gen h2 hP hP hR eS eT n1 n2
theorem as_dbl {a b : F} (h2 : (2 : F) ≠ 0) (N : NoSing a b) {P R : Pt F} (hP : OnC a b P) (hR : OnC a b R) : padd a (padd a P P) R = padd a P (padd a P R) := by
  by_cases hn : padd a P P = R
  · subst hn
    have nP := on_neg' hP
    have hS := hR
    generalize eS : padd a P P = S at *
    -- S + -P = P
    have c0 : padd a S (pneg P) = P := by rw [← eS]; exact padd_cancel h2 N hP hP
    have key : padd a (padd a S S) (pneg P) = padd a S P := by
      by_cases h : padd a S S = pneg P
      · rw [h, ← pneg_padd h2 hP hP, eS]
        have c1 := padd_cancel h2 N hS hS
        rw [h] at c1
        have c1 := congrArg pneg c1
        rw [pneg_padd h2 nP (on_neg' hS), pneg_pneg, pneg_pneg, padd_comm h2 hP hS] at c1
        exact c1.symm
      · rw [as_dbl0 h2 N hS nP h, c0]
    have c2 := padd_cancel h2 N (padd_on h2 hS hS) nP
    rw [key, pneg_pneg] at c2
    rw [← c2, padd_comm h2 hP (padd_on h2 hP hS), padd_comm h2 hP hS]
  · exact as_dbl0 h2 N hP hR hn
theorem padd_assoc {a b : F} (h2 : (2 : F) ≠ 0) (N : NoSing a b) {P Q R : Pt F} (hP : OnC a b P) (hQ : OnC a b Q) (hR : OnC a b R) : padd a (padd a P Q) R = padd a P (padd a Q R) := by
  have nP := on_neg' hP
  have nQ := on_neg' hQ
  have nR := on_neg' hR
  have PQ := padd_on h2 hP hQ
  have QR := padd_on h2 hQ hR
  by_cases e1 : padd a P Q = none
  · have q := padd_none e1
    rw [e1, zero_padd, q, padd_comm h2 hP (padd_on h2 nP hR), padd_comm h2 nP hR]
    have := padd_cancel h2 N hR nP
    rw [pneg_pneg] at this
    exact this.symm
  by_cases e2 : padd a Q R = none
  · have q := padd_none e2
    rw [e2, padd_zero, q]
    exact padd_cancel h2 N hP hQ
  by_cases e3 : padd a (padd a P Q) R = none
  · have q := padd_none e3
    rw [e3, q, pneg_padd h2 hP hQ]
    have : padd a Q (padd a (pneg P) (pneg Q)) = pneg P := by
      rw [padd_comm h2 hQ (padd_on h2 nP nQ)]
      have := padd_cancel h2 N nP nQ
      rwa [pneg_pneg] at this
    rw [this, padd_neg]
  by_cases e4 : padd a P (padd a Q R) = none
  · have q := padd_none e4
    have : padd a P Q = pneg R := by
      have t : P = pneg (padd a Q R) := by rw [q, pneg_pneg]
      rw [t, pneg_padd h2 hQ hR, padd_comm h2 nQ nR]
      have := padd_cancel h2 N nR nQ
      rwa [pneg_pneg] at this
    rw [e4, this, neg_padd]
  by_cases d1 : P = Q
  · subst d1; exact as_dbl h2 N hP hR
  by_cases d2 : Q = R
  · subst d2
    have := as_dbl h2 N hQ hP
    rw [padd_comm h2 hP (padd_on h2 hQ hQ), this, padd_comm h2 (padd_on h2 hP hQ) hQ, padd_comm h2 hP hQ]
  by_cases d3 : padd a P Q = R
  · rw [d3]
    -- (R + R) + -P = R + Q
    have t := as_dbl h2 N hR nP
    have u : padd a R (pneg P) = Q := by
      rw [← d3, padd_comm h2 hP hQ]; exact padd_cancel h2 N hQ hP
    rw [u] at t
    have c := padd_cancel h2 N (padd_on h2 hR hR) nP
    rw [t, pneg_pneg] at c
    rw [← c, padd_comm h2 hP QR, padd_comm h2 hQ hR]
  by_cases d4 : P = padd a Q R
  · rw [← d4]
    have t := as_dbl h2 N hP nR
    have u : padd a P (pneg R) = Q := by
      rw [d4]; exact padd_cancel h2 N hQ hR
    rw [u] at t
    have c := padd_cancel h2 N (padd_on h2 hP hP) nR
    rw [t, pneg_pneg] at c
    exact c
  cases P with
  | none => rfl
  | some p =>
  cases R with
  | none => rw [padd_zero, padd_zero]
  | some r =>
  cases Q with
  | none => rw [padd_zero, zero_padd]
  | some q =>
    obtain ⟨x1, y1⟩ := p
    obtain ⟨x2, y2⟩ := q
    obtain ⟨x3, y3⟩ := r
    cases eS : padd a (some (x1, y1)) (some (x2, y2)) with
    | none => exact absurd eS e1
    | some s =>
      cases eT : padd a (some (x2, y2)) (some (x3, y3)) with
      | none => exact absurd eT e2
      | some t =>
        obtain ⟨x4, y4⟩ := s
        obtain ⟨x6, y6⟩ := t
        rw [eS] at e3 d3
        rw [eT] at e4 d4
        have o4 : OnC a b (some (x4, y4)) := by rw [← eS]; exact PQ
        have o6 : OnC a b (some (x6, y6)) := by rw [← eT]; exact QR
        have same : ∀ {x y y' : F}, OnC a b (some (x, y)) → OnC a b (some (x, y')) → y = y' ∨ y + y' = 0 := by
          intro x y y' p q
          have p : y * y = x * x * x + a * x + b := p
          have q : y' * y' = x * x * x + a * x + b := q
          have : (y - y') * (y + y') = 0 := by grind
          rcases f_dom this with h | h
          · exact .inl (by grind)
          · exact .inr h
        have n1 : x4 ≠ x3 := by
          intro z
          subst z
          rcases same o4 hR with h | h
          · subst h; exact d3 rfl
          · exact e3 (by rw [padd_eq, if_pos ⟨rfl, h⟩])
        have n2 : x1 ≠ x6 := by
          intro z
          subst z
          rcases same hP o6 with h | h
          · subst h; exact d4 rfl
          · exact e4 (by rw [padd_eq, if_pos ⟨rfl, h⟩])
        exact as_gen h2 hP hQ hR eS eT n1 n2
end
end Mi
set_option maxHeartbeats 1000000
namespace Mi
/-! ### the group of a short Weierstrass curve over residues -/
structure Cv where
  p : Nat
  a : Int
  b : Int
  pr : IsP p
  ge : 5 ≤ p
  a0 : 0 ≤ a
  a1 : a < p
  b0 : 0 ≤ b
  b1 : b < p
  ns : NoSing (zm p a) (zm p b)
instance (C : Cv) : Prm C.p := ⟨C.pr⟩
theorem Cv.two (C : Cv) : (2 : Zp C.p) ≠ 0 := z_ne_num 2 (by decide) (by have := C.ge; omega)
theorem Cv.three (C : Cv) : (3 : Zp C.p) ≠ 0 := z_ne_num 3 (by decide) (by have := C.ge; omega)
structure Cv.Pt (C : Cv) where
  v : Mi.Pt (Zp C.p)
  on : OnC (zm C.p C.a) (zm C.p C.b) v
theorem Cv.ext {C : Cv} {P Q : C.Pt} (h : P.v = Q.v) : P = Q := by cases P; cases Q; cases h; rfl
noncomputable instance (C : Cv) : Add C.Pt := ⟨fun P Q => ⟨padd (zm C.p C.a) P.v Q.v, padd_on C.two P.on Q.on⟩⟩
instance (C : Cv) : Zero C.Pt := ⟨⟨none, trivial⟩⟩
noncomputable instance (C : Cv) : Neg C.Pt := ⟨fun P => ⟨pneg P.v, on_neg' P.on⟩⟩
noncomputable instance (C : Cv) : Sub C.Pt := ⟨fun P Q => P + -Q⟩
noncomputable instance (C : Cv) : Lean.Grind.AddCommGroup C.Pt where
  add_zero := fun P => Cv.ext (padd_zero _ P.v)
  add_comm := fun P Q => Cv.ext (padd_comm C.two P.on Q.on)
  add_assoc := fun P Q R => Cv.ext (padd_assoc C.two C.ns P.on Q.on R.on)
  neg_add_cancel := fun P => Cv.ext (neg_padd _ P.v)
  sub_eq_add_neg := fun P Q => rfl
end Mi
set_option maxHeartbeats 4000000
namespace Mi
open PySem PySem.Spec L2
def topS (i : Nat) : Stmt := PySem.Challenge.pw_curveseal_k75_whole_curves_and_their_twi.main.body.getD i (.Pass ⟨0, 0, 0, 0⟩)

structure O_Curve where
  f_prime : Int
  f_a : Int
  f_b : Int
instance : ToD O_Curve := ⟨fun x => .obj "Curve" ["prime", "a", "b"] [toD x.f_prime, toD x.f_a, toD x.f_b]⟩
abbrev s_count_points : Stmt := topS 8
theorem sc_count_points : FnScope ["curve", "p", "roots", "y", "x"] ["curve"] (defScope s_count_points) := ⟨rfl, rfl, rfl, by decide +kernel, rfl, by decide +kernel, by decide +kernel⟩
abbrev s_multiply_by_bits : Stmt := topS 10
theorem sc_multiply_by_bits : FnScope ["curve", "neutral", "factor", "point", "result", "doubled", "rest"] ["curve", "neutral", "factor", "point"] (defScope s_multiply_by_bits) := ⟨rfl, rfl, rfl, by decide +kernel, rfl, by decide +kernel, by decide +kernel⟩
abbrev s_is_whole : Stmt := topS 12
theorem sc_is_whole : FnScope ["value"] ["value"] (defScope s_is_whole) := ⟨rfl, rfl, rfl, by decide +kernel, rfl, by decide +kernel, by decide +kernel⟩
abbrev s_is_residue : Stmt := topS 14
theorem sc_is_residue : FnScope ["value", "modulus"] ["value", "modulus"] (defScope s_is_residue) := ⟨rfl, rfl, rfl, by decide +kernel, rfl, by decide +kernel, by decide +kernel⟩
abbrev s_is_residue_pair : Stmt := topS 15
theorem sc_is_residue_pair : FnScope ["value", "modulus", "item"] ["value", "modulus"] (defScope s_is_residue_pair) := ⟨rfl, rfl, rfl, by decide +kernel, rfl, by decide +kernel, by decide +kernel⟩
abbrev s_bezout : Stmt := topS 16
theorem sc_bezout : FnScope ["a", "b", "first", "second", "times", "rest"] ["a", "b"] (defScope s_bezout) := ⟨rfl, rfl, rfl, by decide +kernel, rfl, by decide +kernel, by decide +kernel⟩
abbrev s_inverse : Stmt := topS 17
theorem sc_inverse : FnScope ["a", "modulus", "divisor", "factor", "_"] ["a", "modulus"] (defScope s_inverse) := ⟨rfl, rfl, rfl, by decide +kernel, rfl, by decide +kernel, by decide +kernel⟩
abbrev s_power : Stmt := topS 18
theorem sc_power : FnScope ["a", "exponent", "modulus", "result", "square", "rest"] ["a", "exponent", "modulus"] (defScope s_power) := ⟨rfl, rfl, rfl, by decide +kernel, rfl, by decide +kernel, by decide +kernel⟩
abbrev s_square_class : Stmt := topS 19
theorem sc_square_class : FnScope ["a", "prime"] ["a", "prime"] (defScope s_square_class) := ⟨rfl, rfl, rfl, by decide +kernel, rfl, by decide +kernel, by decide +kernel⟩
abbrev s_split_twos : Stmt := topS 20
theorem sc_split_twos : FnScope ["number", "twos"] ["number"] (defScope s_split_twos) := ⟨rfl, rfl, rfl, by decide +kernel, rfl, by decide +kernel, by decide +kernel⟩
abbrev s_square_root : Stmt := topS 21
theorem sc_square_root : FnScope ["a", "prime", "kind", "root"] ["a", "prime"] (defScope s_square_root) := ⟨rfl, rfl, rfl, by decide +kernel, rfl, by decide +kernel, by decide +kernel⟩
abbrev s_u_root_of_square : Stmt := topS 22
theorem sc_u_root_of_square : FnScope ["a", "prime", "odd", "twos", "root", "rest", "helper", "level"] ["a", "prime"] (defScope s_u_root_of_square) := ⟨rfl, rfl, rfl, by decide +kernel, rfl, by decide +kernel, by decide +kernel⟩
abbrev s_u_non_square : Stmt := topS 23
theorem sc_u_non_square : FnScope ["prime", "number"] ["prime"] (defScope s_u_non_square) := ⟨rfl, rfl, rfl, by decide +kernel, rfl, by decide +kernel, by decide +kernel⟩
abbrev s_root_with_parity : Stmt := topS 24
theorem sc_root_with_parity : FnScope ["a", "prime", "odd", "root"] ["a", "prime", "odd"] (defScope s_root_with_parity) := ⟨rfl, rfl, rfl, by decide +kernel, rfl, by decide +kernel, by decide +kernel⟩
abbrev s_Curve_init : Stmt := inClass (topS 26) 0
theorem sc_Curve_init : FnScope ["self", "prime", "a", "b"] ["self", "prime", "a", "b"] (defScope s_Curve_init) := ⟨rfl, rfl, rfl, by decide +kernel, rfl, by decide +kernel, by decide +kernel⟩
abbrev s_Curve_has : Stmt := inClass (topS 26) 1
theorem sc_Curve_has : FnScope ["self", "point"] ["self", "point"] (defScope s_Curve_has) := ⟨rfl, rfl, rfl, by decide +kernel, rfl, by decide +kernel, by decide +kernel⟩
abbrev s_Curve_u_right_side : Stmt := inClass (topS 26) 2
theorem sc_Curve_u_right_side : FnScope ["self", "x"] ["self", "x"] (defScope s_Curve_u_right_side) := ⟨rfl, rfl, rfl, by decide +kernel, rfl, by decide +kernel, by decide +kernel⟩
abbrev s_Curve_negate : Stmt := inClass (topS 26) 3
theorem sc_Curve_negate : FnScope ["self", "point"] ["self", "point"] (defScope s_Curve_negate) := ⟨rfl, rfl, rfl, by decide +kernel, rfl, by decide +kernel, by decide +kernel⟩
abbrev s_Curve_add : Stmt := inClass (topS 26) 4
theorem sc_Curve_add : FnScope ["self", "first", "second", "slope", "x"] ["self", "first", "second"] (defScope s_Curve_add) := ⟨rfl, rfl, rfl, by decide +kernel, rfl, by decide +kernel, by decide +kernel⟩
abbrev s_Curve_u_slope : Stmt := inClass (topS 26) 5
theorem sc_Curve_u_slope : FnScope ["self", "first", "second", "rise", "run"] ["self", "first", "second"] (defScope s_Curve_u_slope) := ⟨rfl, rfl, rfl, by decide +kernel, rfl, by decide +kernel, by decide +kernel⟩
abbrev s_Curve_multiply : Stmt := inClass (topS 26) 7
theorem sc_Curve_multiply : FnScope ["self", "factor", "point"] ["self", "factor", "point"] (defScope s_Curve_multiply) := ⟨rfl, rfl, rfl, by decide +kernel, rfl, by decide +kernel, by decide +kernel⟩
abbrev s_Curve_lift : Stmt := inClass (topS 26) 8
theorem sc_Curve_lift : FnScope ["self", "x", "odd", "y"] ["self", "x", "odd"] (defScope s_Curve_lift) := ⟨rfl, rfl, rfl, by decide +kernel, rfl, by decide +kernel, by decide +kernel⟩
abbrev s_u_law_cell : Stmt := topS 28
theorem sc_u_law_cell : FnScope ["script", "k"] ["script", "k"] (defScope s_u_law_cell) := ⟨rfl, rfl, rfl, by decide +kernel, rfl, by decide +kernel, by decide +kernel⟩
abbrev s_u_law_power : Stmt := topS 30
theorem sc_u_law_power : FnScope ["a", "exponent", "modulus", "result", "square", "k"] ["a", "exponent", "modulus"] (defScope s_u_law_power) := ⟨rfl, rfl, rfl, by decide +kernel, rfl, by decide +kernel, by decide +kernel⟩
abbrev s_u_law_inverse : Stmt := topS 31
theorem sc_u_law_inverse : FnScope ["a", "prime"] ["a", "prime"] (defScope s_u_law_inverse) := ⟨rfl, rfl, rfl, by decide +kernel, rfl, by decide +kernel, by decide +kernel⟩
abbrev s_u_law_residue : Stmt := topS 32
theorem sc_u_law_residue : FnScope ["cell", "prime", "rest"] ["cell", "prime"] (defScope s_u_law_residue) := ⟨rfl, rfl, rfl, by decide +kernel, rfl, by decide +kernel, by decide +kernel⟩
abbrev s_u_law_curve_and_points : Stmt := topS 33
theorem sc_u_law_curve_and_points : FnScope ["script", "at", "prime", "x1", "y1", "x2", "y2", "a", "b"] ["script", "at", "prime"] (defScope s_u_law_curve_and_points) := ⟨rfl, rfl, rfl, by decide +kernel, rfl, by decide +kernel, by decide +kernel⟩
abbrev s_u_law_add : Stmt := topS 34
theorem sc_u_law_add : FnScope ["prime", "a", "first", "second", "x1", "y1", "x2", "y2", "slope", "x3"] ["prime", "a", "first", "second"] (defScope s_u_law_add) := ⟨rfl, rfl, rfl, by decide +kernel, rfl, by decide +kernel, by decide +kernel⟩
abbrev s_u_law_singular : Stmt := topS 36
theorem sc_u_law_singular : FnScope ["prime", "a", "b"] ["prime", "a", "b"] (defScope s_u_law_singular) := ⟨rfl, rfl, rfl, by decide +kernel, rfl, by decide +kernel, by decide +kernel⟩
abbrev s_u_law_prime : Stmt := topS 37
theorem sc_u_law_prime : FnScope ["cell", "number", "k", "j"] ["cell"] (defScope s_u_law_prime) := ⟨rfl, rfl, rfl, by decide +kernel, rfl, by decide +kernel, by decide +kernel⟩
abbrev s_u_law_lowest : Stmt := topS 38
theorem sc_u_law_lowest : FnScope ["prime", "g"] ["prime"] (defScope s_u_law_lowest) := ⟨rfl, rfl, rfl, by decide +kernel, rfl, by decide +kernel, by decide +kernel⟩
abbrev s_u_law_moved : Stmt := topS 39
theorem sc_u_law_moved : FnScope ["prime", "u", "point"] ["prime", "u", "point"] (defScope s_u_law_moved) := ⟨rfl, rfl, rfl, by decide +kernel, rfl, by decide +kernel, by decide +kernel⟩
abbrev s_law : Stmt := topS 40
theorem sc_law : FnScope ["script", "prime", "a", "b", "first", "second", "curve", "g", "twist", "count", "x", "here", "there", "zero", "u", "other", "factor", "one", "moved"] ["script"] (defScope s_law) := ⟨rfl, rfl, rfl, by decide +kernel, rfl, by decide +kernel, by decide +kernel⟩
def errs : List Str := ["CurveError", "OutOfRange", "NoInverse", "Refused"]
def ancE : List (Str × List Str) := [("CurveError", ["CurveError"]), ("OutOfRange", ["OutOfRange", "CurveError"]), ("NoInverse", ["NoInverse", "CurveError"]), ("Refused", ["Refused", "CurveError"])]
def subE (c d : Str) : Bool := match ancE.lookup c with | some l => decide (d ∈ l) | none => false
abbrev FnP (K : PySem.W.Frag) (x q : Str) (st : Stmt) (f : Addr) (fd : FuncData) : Prop := FunD K x q (defArgs st) (defBody st) (defScope st) [] [] f fd
structure Facts (K : PySem.W.Frag) (mg : Str → Option Value) : Prop where
  d_count_points : ∃ fd, FnP K "count_points" "count_points" s_count_points (He.ga K "count_points") fd
  g_count_points : mg "count_points" = some (.ref (He.ga K "count_points"))
  d_multiply_by_bits : ∃ fd, FnP K "multiply_by_bits" "multiply_by_bits" s_multiply_by_bits (He.ga K "multiply_by_bits") fd
  g_multiply_by_bits : mg "multiply_by_bits" = some (.ref (He.ga K "multiply_by_bits"))
  d_is_whole : ∃ fd, FnP K "is_whole" "is_whole" s_is_whole (He.ga K "is_whole") fd
  g_is_whole : mg "is_whole" = some (.ref (He.ga K "is_whole"))
  d_is_residue : ∃ fd, FnP K "is_residue" "is_residue" s_is_residue (He.ga K "is_residue") fd
  g_is_residue : mg "is_residue" = some (.ref (He.ga K "is_residue"))
  d_is_residue_pair : ∃ fd, FnP K "is_residue_pair" "is_residue_pair" s_is_residue_pair (He.ga K "is_residue_pair") fd
  g_is_residue_pair : mg "is_residue_pair" = some (.ref (He.ga K "is_residue_pair"))
  d_bezout : ∃ fd, FnP K "bezout" "bezout" s_bezout (He.ga K "bezout") fd
  g_bezout : mg "bezout" = some (.ref (He.ga K "bezout"))
  d_inverse : ∃ fd, FnP K "inverse" "inverse" s_inverse (He.ga K "inverse") fd
  g_inverse : mg "inverse" = some (.ref (He.ga K "inverse"))
  d_power : ∃ fd, FnP K "power" "power" s_power (He.ga K "power") fd
  g_power : mg "power" = some (.ref (He.ga K "power"))
  d_square_class : ∃ fd, FnP K "square_class" "square_class" s_square_class (He.ga K "square_class") fd
  g_square_class : mg "square_class" = some (.ref (He.ga K "square_class"))
  d_split_twos : ∃ fd, FnP K "split_twos" "split_twos" s_split_twos (He.ga K "split_twos") fd
  g_split_twos : mg "split_twos" = some (.ref (He.ga K "split_twos"))
  d_square_root : ∃ fd, FnP K "square_root" "square_root" s_square_root (He.ga K "square_root") fd
  g_square_root : mg "square_root" = some (.ref (He.ga K "square_root"))
  d_u_root_of_square : ∃ fd, FnP K "_root_of_square" "_root_of_square" s_u_root_of_square (He.ga K "_root_of_square") fd
  g_u_root_of_square : mg "_root_of_square" = some (.ref (He.ga K "_root_of_square"))
  d_u_non_square : ∃ fd, FnP K "_non_square" "_non_square" s_u_non_square (He.ga K "_non_square") fd
  g_u_non_square : mg "_non_square" = some (.ref (He.ga K "_non_square"))
  d_root_with_parity : ∃ fd, FnP K "root_with_parity" "root_with_parity" s_root_with_parity (He.ga K "root_with_parity") fd
  g_root_with_parity : mg "root_with_parity" = some (.ref (He.ga K "root_with_parity"))
  d_Curve_init : ∃ fd, FnP K "__init__" "Curve.__init__" s_Curve_init (He.ma K (He.ga K "Curve") "__init__") fd
  d_Curve_has : ∃ fd, FnP K "has" "Curve.has" s_Curve_has (He.ma K (He.ga K "Curve") "has") fd
  d_Curve_u_right_side : ∃ fd, FnP K "_right_side" "Curve._right_side" s_Curve_u_right_side (He.ma K (He.ga K "Curve") "_right_side") fd
  d_Curve_negate : ∃ fd, FnP K "negate" "Curve.negate" s_Curve_negate (He.ma K (He.ga K "Curve") "negate") fd
  d_Curve_add : ∃ fd, FnP K "add" "Curve.add" s_Curve_add (He.ma K (He.ga K "Curve") "add") fd
  d_Curve_u_slope : ∃ fd, FnP K "_slope" "Curve._slope" s_Curve_u_slope (He.ma K (He.ga K "Curve") "_slope") fd
  d_Curve_multiply : ∃ fd, FnP K "multiply" "Curve.multiply" s_Curve_multiply (He.ma K (He.ga K "Curve") "multiply") fd
  d_Curve_lift : ∃ fd, FnP K "lift" "Curve.lift" s_Curve_lift (He.ma K (He.ga K "Curve") "lift") fd
  d_u_law_cell : ∃ fd, FnP K "_law_cell" "_law_cell" s_u_law_cell (He.ga K "_law_cell") fd
  g_u_law_cell : mg "_law_cell" = some (.ref (He.ga K "_law_cell"))
  d_u_law_power : ∃ fd, FnP K "_law_power" "_law_power" s_u_law_power (He.ga K "_law_power") fd
  g_u_law_power : mg "_law_power" = some (.ref (He.ga K "_law_power"))
  d_u_law_inverse : ∃ fd, FnP K "_law_inverse" "_law_inverse" s_u_law_inverse (He.ga K "_law_inverse") fd
  g_u_law_inverse : mg "_law_inverse" = some (.ref (He.ga K "_law_inverse"))
  d_u_law_residue : ∃ fd, FnP K "_law_residue" "_law_residue" s_u_law_residue (He.ga K "_law_residue") fd
  g_u_law_residue : mg "_law_residue" = some (.ref (He.ga K "_law_residue"))
  d_u_law_curve_and_points : ∃ fd, FnP K "_law_curve_and_points" "_law_curve_and_points" s_u_law_curve_and_points (He.ga K "_law_curve_and_points") fd
  g_u_law_curve_and_points : mg "_law_curve_and_points" = some (.ref (He.ga K "_law_curve_and_points"))
  d_u_law_add : ∃ fd, FnP K "_law_add" "_law_add" s_u_law_add (He.ga K "_law_add") fd
  g_u_law_add : mg "_law_add" = some (.ref (He.ga K "_law_add"))
  d_u_law_singular : ∃ fd, FnP K "_law_singular" "_law_singular" s_u_law_singular (He.ga K "_law_singular") fd
  g_u_law_singular : mg "_law_singular" = some (.ref (He.ga K "_law_singular"))
  d_u_law_prime : ∃ fd, FnP K "_law_prime" "_law_prime" s_u_law_prime (He.ga K "_law_prime") fd
  g_u_law_prime : mg "_law_prime" = some (.ref (He.ga K "_law_prime"))
  d_u_law_lowest : ∃ fd, FnP K "_law_lowest" "_law_lowest" s_u_law_lowest (He.ga K "_law_lowest") fd
  g_u_law_lowest : mg "_law_lowest" = some (.ref (He.ga K "_law_lowest"))
  d_u_law_moved : ∃ fd, FnP K "_law_moved" "_law_moved" s_u_law_moved (He.ga K "_law_moved") fd
  g_u_law_moved : mg "_law_moved" = some (.ref (He.ga K "_law_moved"))
  d_law : ∃ fd, FnP K "law" "law" s_law (He.ga K "law") fd
  g_law : mg "law" = some (.ref (He.ga K "law"))
  g_Curve : mg "Curve" = some (.ref (He.ga K "Curve"))
  cl_Curve : L2.Cls K (He.ga K "Curve")
  nf_Curve_a : NoAttr K (He.ga K "Curve") "a"
  nf_Curve_b : NoAttr K (He.ga K "Curve") "b"
  nf_Curve_prime : NoAttr K (He.ga K "Curve") "prime"
  mt_Curve_u_right_side : Meth K (He.ga K "Curve") "_right_side" (He.ma K (He.ga K "Curve") "_right_side")
  mt_Curve_u_slope : Meth K (He.ga K "Curve") "_slope" (He.ma K (He.ga K "Curve") "_slope")
  mt_Curve_add : Meth K (He.ga K "Curve") "add" (He.ma K (He.ga K "Curve") "add")
  mt_Curve_has : Meth K (He.ga K "Curve") "has" (He.ma K (He.ga K "Curve") "has")
  mt_Curve_lift : Meth K (He.ga K "Curve") "lift" (He.ma K (He.ga K "Curve") "lift")
  mt_Curve_multiply : Meth K (He.ga K "Curve") "multiply" (He.ma K (He.ga K "Curve") "multiply")
  mt_Curve_negate : Meth K (He.ga K "Curve") "negate" (He.ma K (He.ga K "Curve") "negate")
  mk_Curve : Mk K (He.ga K "Curve") (He.ma K (He.ga K "Curve") "__init__")
  g_CurveError : mg "CurveError" = some (.ref (He.ga K "CurveError"))
  g_OutOfRange : mg "OutOfRange" = some (.ref (He.ga K "OutOfRange"))
  g_NoInverse : mg "NoInverse" = some (.ref (He.ga K "NoInverse"))
  g_Refused : mg "Refused" = some (.ref (He.ga K "Refused"))
  x_NoInverse : PySem.W.excIn K (He.ga K "NoInverse") He.veBase "ValueError.__new__" = true
  k_NoInverse : PySem.W.keepIn K (.ref (He.ga K "NoInverse")) = true
  b_NoInverse : PySem.W.subIn K (.ref (He.ga K "NoInverse")) (.type "BaseException") = some true
  t_NoInverse : PySem.W.typeIn K (.ref (He.ga K "NoInverse")) = some (.type "type")
  x_OutOfRange : PySem.W.excIn K (He.ga K "OutOfRange") He.veBase "ValueError.__new__" = true
  k_OutOfRange : PySem.W.keepIn K (.ref (He.ga K "OutOfRange")) = true
  b_OutOfRange : PySem.W.subIn K (.ref (He.ga K "OutOfRange")) (.type "BaseException") = some true
  t_OutOfRange : PySem.W.typeIn K (.ref (He.ga K "OutOfRange")) = some (.type "type")
  x_Refused : PySem.W.excIn K (He.ga K "Refused") He.veBase "ValueError.__new__" = true
  k_Refused : PySem.W.keepIn K (.ref (He.ga K "Refused")) = true
  b_Refused : PySem.W.subIn K (.ref (He.ga K "Refused")) (.type "BaseException") = some true
  t_Refused : PySem.W.typeIn K (.ref (He.ga K "Refused")) = some (.type "type")
  n_abs : mg "abs" = none
  n_all : mg "all" = none
  n_bool : mg "bool" = none
  n_int : mg "int" = none
  n_isinstance : mg "isinstance" = none
  n_len : mg "len" = none
  n_min : mg "min" = none
  n_range : mg "range" = none
  n_sum : mg "sum" = none
  n_tuple : mg "tuple" = none
  c_COUNT_LIMIT : ∃ t, mg "COUNT_LIMIT" = some (.int 65536 t)
  cls : Cls K errs subE
noncomputable def m_count_points_l2 (p_ : Int) (k2 : (List Int) → Res Int) : List Int → (List Int) → Res Int
  | [], s => k2 s
  | x10 :: r2, roots_ =>   (fun (y_ : Int) => ((((Res.ok y_)).bind fun (t11 : Int) => ((Res.ok y_)).bind fun (t12 : Int) => Res.need (CMulX t11 t12) (Res.ok (t11 * t12))).bind fun (t13 : Int) => ((Res.ok p_)).bind fun (t14 : Int) => Res.need (0 < t14) (Res.ok (t13 % t14))).bind fun (j16 : Int) => Res.need (0 ≤ j16) (match roots_[j16.toNat]? with | some a17 => ((Res.ok (1 : Int))).bind fun (y15 : Int) => (fun (roots_ : (List Int)) => m_count_points_l2 p_ k2 r2 roots_) (roots_.set j16.toNat (a17 + y15)) | none => Res.stuck)) x10
noncomputable def m_count_points_k3 (curve_ : O_Curve) (p_ : Int) : (List Int) → Res Int := fun roots_ =>   ((Res.ok (1 : Int))).bind fun (t40 : Int) => ((((((Res.ok p_)).bind fun (t18 : Int) => Res.need (okRange t18) (Res.ok (pyRange 0 t18))).bind fun (xs36 : List Int) => Res.need (xs36.length ≤ 16777216) (compL (fun (x19 : Int) => Res.ok true) (fun (x19 : Int) => ((Res.ok roots_)).bind fun (t34 : (List Int)) => (((((((Res.ok x19)).bind fun (t20 : Int) => ((Res.ok x19)).bind fun (t21 : Int) => Res.need (CMulX t20 t21) (Res.ok (t20 * t21))).bind fun (t22 : Int) => ((Res.ok x19)).bind fun (t23 : Int) => Res.need (CMulX t22 t23) (Res.ok (t22 * t23))).bind fun (t27 : Int) => ((((Res.ok curve_)).bind fun (t24 : O_Curve) => Res.ok t24.f_a).bind fun (t25 : Int) => ((Res.ok x19)).bind fun (t26 : Int) => Res.need (CMulX t25 t26) (Res.ok (t25 * t26))).bind fun (t28 : Int) => Res.ok (t27 + t28)).bind fun (t30 : Int) => (((Res.ok curve_)).bind fun (t29 : O_Curve) => Res.ok t29.f_b).bind fun (t31 : Int) => Res.ok (t30 + t31)).bind fun (t32 : Int) => ((Res.ok p_)).bind fun (t33 : Int) => Res.need (0 < t33) (Res.ok (t32 % t33))).bind fun (t35 : Int) => idx t34 t35) xs36)).bind fun a38 => (Res.ok ()).bind fun a39 => Res.ok (a38, a39)).bind fun p37 => Res.ok (p37.1).sum).bind fun (t41 : Int) => Res.ok (t40 + t41)
noncomputable def m_count_points (curve_ : O_Curve) : Res Int :=
  (((Res.ok curve_)).bind fun (t1 : O_Curve) => Res.ok t1.f_prime).bind fun (p_ : Int) =>   (((Res.ok p_)).bind fun (t2 : Int) => ((Res.ok (65536 : Int))).bind fun (t3 : Int) => Res.ok (decide (t3 ≤ t2))).bind fun b => cond b   (Res.exc "OutOfRange")   ((((((Res.ok (0 : Int))).bind fun a5 => (Res.ok ()).bind fun a6 => Res.ok (a5, a6)).bind fun p4 => Res.ok ([p4.1] : List Int)).bind fun (t7 : (List Int)) => ((Res.ok p_)).bind fun (t8 : Int) => Res.need (RepOk t7.length t8) (Res.ok (List.replicate t8.toNat t7).flatten)).bind fun (roots_ : (List Int)) =>   (((Res.ok p_)).bind fun (t9 : Int) => Res.need (okRange t9) (Res.ok (pyRange 0 t9))).bind fun (xs42 : List Int) => m_count_points_l2 p_ (m_count_points_k3 curve_ p_) xs42 roots_)
theorem ok_count_points {P : Program} {w : World} {K : PySem.W.Frag} {mg : Str → Option Value} {base : Heap} (T : Facts K mg) {fd : FuncData} (F : FnP K "count_points" "count_points" s_count_points (He.ga K "count_points") fd) :
    FnOk P w K mg base (L2.CX P w) 1 (He.ga K "count_points") fd ["curve"] (spM K (fun (p : O_Curve × Unit) => m_count_points p.1)) := by
  refine fn_ok F sc_count_points (fun y => rfl) (fun cdv A outer s H E hr => ?_)
  refine ⟨_, (pss_cons (ps_set (i := 1) sc_count_points.nd rfl (Or.inr rfl) (pe_fld (pv 0) rfl)) (pss_cons (ps_if (pt_cmpR op_ge (pv 1) (pe_glob (v := .int 65536) rfl T.c_COUNT_LIMIT.choose_spec ⟨_, rfl⟩) (nomark _)) (pss_one (ps_raise rfl (takes_of rfl rfl rfl rfl) (pmk_own PySem.F.excBase_ValueError T.x_OutOfRange T.g_OutOfRange T.k_OutOfRange (raises_own T.b_OutOfRange T.t_OutOfRange) rfl))) pss_nil) (pss_cons (ps_set (i := 2) sc_count_points.nd rfl (Or.inr rfl) (pe_op op_rep (pe_lst (pa_cons pe_int pa_nil)) (pv 1))) (pss_cons (ps_for (passes_of rfl) rfl (pi_range1 rfl T.n_range (pa_cons (pv 1) pa_nil)) (pg_name (i := 3) sc_count_points.nd rfl (Or.inl rfl)) (pss_one (ps_augS (pv 2) (pe_op op_mod (pe_op op_mulX (pv 3) (pv 3)) (pv 1)) pget_list pe_int ip_add set_list))) (pss_one (ps_ret (pe_op op_add pe_int (pe_callB (cr_sum rfl) (by rfl) T.n_sum (by decide +kernel) (pa_cons (pe_lc (own := [("x", 4)]) rfl sc_count_points.nd (pi_range1 rfl T.n_range (pa_cons (pv 1) pa_nil)) (blkOk_by (own := [("x", 4)]) (N := ["curve", "p", "roots", "y", "x"]) (sc := defScope s_count_points) (by decide +kernel)) (fun _ _ _ _ _ => (pg_name (i := 4) sc_count_points.nd rfl (Or.inl rfl))) (fun _ _ _ _ _ => pts_nil) (fun _ _ _ _ _ => (pe_ix (cr_ixL rfl) (pv 2) (pe_op op_mod (pe_op op_add (pe_op op_add (pe_op op_mulX (pe_op op_mulX (pv 4) (pv 4)) (pv 4)) (pe_op op_mulX (cr_fld rfl (pv 0) rfl) (pv 4))) (cr_fld rfl (pv 0) rfl)) (pv 1)) (fun _ _ => rfl)))) pa_nil))))))))), ?_⟩
  rintro ⟨curve_, ⟨⟩⟩ F0 H0 Q KP L
  show Blk K F0 H0 KP _ [some (.im (toD curve_)), none, none, none, none] (m_count_points curve_)
  unfold m_count_points
  have hs_ := ((ev_fld (g := fun (x : O_Curve) => x.f_prime) (c := "Curve") (ks := ["prime", "a", "b"]) (j := 0) (ev_var (i := 0) (x := curve_) rfl) T.cl_Curve T.nf_Curve_prime (by decide +kernel) (fun _ => ⟨_, rfl, rfl⟩)) : EvX K (W0 E) [some (.im (toD curve_)), none, none, none, none] _ _)
  refine blk_seq (blk_set (i := 1) L trivial hs_ fun p_ => ?_)
  show Blk _ _ _ _ _ [some (.im (toD curve_)), some (.im (toD p_)), none, none, none] _
  try refine Blk.nx ?_
  have ht_ := ((et_test (ev_op (opx_B0 (g := fun i j => decide (j ≤ i))) mild_ok (ev_var (i := 1) (x := p_) rfl) (ev_int (i := 65536)))) : EvT K (W0 E) [some (.im (toD curve_)), some (.im (toD p_)), none, none, none] _ _)
  refine blk_seq (blk_if2 L trivial ht_ ?_ ?_)
  · exact blk_raise L trivial
  · refine blk_nil ?_
    try refine Blk.nx ?_
    have hs_ := ((en_rep (ev_ofN (en_lst (f := (fun y => ([y.1] : List Int))) (ea_cons (ev_int (i := 0)) ea_nil) (fun _ => rfl) (fun _ => by show 1 ≤ 100000; decide))) (ev_var (i := 1) (x := p_) rfl)) : EvN K (W0 E) [some (.im (toD curve_)), some (.im (toD p_)), none, none, none] _ _)
    refine blk_seq (blk_own (i := 2) L trivial hs_ fun roots_ => ?_)
    show Blk _ _ _ _ _ [some (.im (toD curve_)), some (.im (toD p_)), some (.ow (roots_.map toD)), none, none] _
    try refine Blk.nx ?_
    have hi_ := ((ei_range1 (ev_var (i := 1) (x := p_) rfl)) : EvI K (W0 E) [some (.im (toD curve_)), some (.im (toD p_)), some (.ow (roots_.map toD)), none, none] _ _)
    refine blk_seq (blk_for (S := (List Int)) (m_count_points_l2 p_ (m_count_points_k3 curve_ p_)) (m_count_points_k3 curve_ p_) (fun roots_ => [some (.im (toD curve_)), some (.im (toD p_)), some (.ow (roots_.map toD)), none, none]) roots_ L trivial hi_ (fun _ => gx_name) (.same (.same (.same (.same (.same .nil))))) (fun _ => rfl) ?_ ?_)
    · intro F2 L2 hB2 x10 r2 s_ N_ hN2
      revert s_; intro roots_
      show Blk _ _ _ _ _ [some (.im (toD curve_)), some (.im (toD p_)), some (.ow (roots_.map toD)), some (.im (toD x10)), none] (m_count_points_l2 p_ (m_count_points_k3 curve_ p_) (x10 :: r2) roots_)
      rw [m_count_points_l2]
      show Blk _ _ _ _ _ _ ((fun (y_ : Int) => _) x10)
      generalize x10 = y_
      show Blk _ _ _ _ _ [some (.im (toD curve_)), some (.im (toD p_)), some (.ow (roots_.map toD)), some (.im (toD y_)), none] _
      have he_ := ((ev_int (i := 1)) : EvX K (W0 E) [some (.im (toD curve_)), some (.im (toD p_)), some (.ow (roots_.map toD)), some (.im (toD y_)), none] _ _)
      have hi_ := ((ev_op (opx_I (C := (fun _ j => 0 < j)) (g := fun i j => i % j)) mild_need (ev_op (opx_I (C := CMulX) (g := fun i j => i * j)) mild_need (ev_var (i := 3) (x := y_) rfl) (ev_var (i := 3) (x := y_) rfl)) (ev_var (i := 1) (x := p_) rfl)) : EvX K (W0 E) [some (.im (toD curve_)), some (.im (toD p_)), some (.ow (roots_.map toD)), some (.im (toD y_)), none] _ _)
      refine blk_augI (i := 2) (xs := roots_) (g := fun i j => i + j) L2 trivial rfl hi_ he_ fun roots_ => ?_
      show Blk _ _ _ _ _ [some (.im (toD curve_)), some (.im (toD p_)), some (.ow (roots_.map toD)), some (.im (toD y_)), none] _
      try refine Blk.nx ?_
      exact (hN2 roots_).weak (.same (.same (.same (.drop (.same .nil)))))
    · intro roots_
      show Blk _ _ _ _ _ [some (.im (toD curve_)), some (.im (toD p_)), some (.ow (roots_.map toD)), none, none] ((m_count_points_k3 curve_ p_) roots_)
      unfold m_count_points_k3
      try refine Blk.nx ?_
      refine blk_freeze 2 rfl ?_
      show Blk _ _ _ _ _ [some (.im (toD curve_)), some (.im (toD p_)), some (.im (toD roots_)), none, none] _
      have hr_ := ((ev_op (opx_I0 (g := fun i j => i + j)) mild_ok (ev_int (i := 1)) (ev_cb cx_sum (fun _ _ h => nomatch h) (ea_cons (ev_ofN (ev_comp (tst := fun (x19 : Int) => Res.ok true) (el := fun (x19 : Int) => ((Res.ok roots_)).bind fun (t34 : (List Int)) => (((((((Res.ok x19)).bind fun (t20 : Int) => ((Res.ok x19)).bind fun (t21 : Int) => Res.need (CMulX t20 t21) (Res.ok (t20 * t21))).bind fun (t22 : Int) => ((Res.ok x19)).bind fun (t23 : Int) => Res.need (CMulX t22 t23) (Res.ok (t22 * t23))).bind fun (t27 : Int) => ((((Res.ok curve_)).bind fun (t24 : O_Curve) => Res.ok t24.f_a).bind fun (t25 : Int) => ((Res.ok x19)).bind fun (t26 : Int) => Res.need (CMulX t25 t26) (Res.ok (t25 * t26))).bind fun (t28 : Int) => Res.ok (t27 + t28)).bind fun (t30 : Int) => (((Res.ok curve_)).bind fun (t29 : O_Curve) => Res.ok t29.f_b).bind fun (t31 : Int) => Res.ok (t30 + t31)).bind fun (t32 : Int) => ((Res.ok p_)).bind fun (t33 : Int) => Res.need (0 < t33) (Res.ok (t32 % t33))).bind fun (t35 : Int) => idx t34 t35) (ws := [4]) (ei_range1 (ev_var (i := 1) (x := p_) rfl)) (fun _ => gx_name) (fun x19 => et_yes) (fun x19 => ((ev_op opx_ixL (fun x y => idx_mild x y) (ev_var (i := 2) (x := roots_) rfl) (ev_op (opx_I (C := (fun _ j => 0 < j)) (g := fun i j => i % j)) mild_need (ev_op (opx_I0 (g := fun i j => i + j)) mild_ok (ev_op (opx_I0 (g := fun i j => i + j)) mild_ok (ev_op (opx_I (C := CMulX) (g := fun i j => i * j)) mild_need (ev_op (opx_I (C := CMulX) (g := fun i j => i * j)) mild_need (ev_var (i := 4) (x := x19) rfl) (ev_var (i := 4) (x := x19) rfl)) (ev_var (i := 4) (x := x19) rfl)) (ev_op (opx_I (C := CMulX) (g := fun i j => i * j)) mild_need (ev_fld (g := fun (x : O_Curve) => x.f_a) (c := "Curve") (ks := ["prime", "a", "b"]) (j := 1) (ev_var (i := 0) (x := curve_) rfl) T.cl_Curve T.nf_Curve_a (by decide +kernel) (fun _ => ⟨_, rfl, rfl⟩)) (ev_var (i := 4) (x := x19) rfl))) (ev_fld (g := fun (x : O_Curve) => x.f_b) (c := "Curve") (ks := ["prime", "a", "b"]) (j := 2) (ev_var (i := 0) (x := curve_) rfl) T.cl_Curve T.nf_Curve_b (by decide +kernel) (fun _ => ⟨_, rfl, rfl⟩))) (ev_var (i := 1) (x := p_) rfl))) : EvX K WT [some (.im (toD curve_)), some (.im (toD p_)), some (.im (toD roots_)), none, some (.im (toD x19))] _ _)))) ea_nil))) : EvX K (W0 E) [some (.im (toD curve_)), some (.im (toD p_)), some (.im (toD roots_)), none, none] _ _)
      exact blk_ret L trivial hr_
noncomputable def m_bezout_w1 (k1 : (T3 Int Int Int) × (T3 Int Int Int) → Res (T3 Int Int Int)) : Nat → (T3 Int Int Int) × (T3 Int Int Int) → Res (T3 Int Int Int)
  | 0, _ => Res.stuck
  | n1 + 1, (first_, second_) => ((((Res.ok second_)).bind fun (t57 : (T3 Int Int Int)) => Res.ok t57.a).bind fun (t58 : Int) => ((Res.ok (0 : Int))).bind fun (t59 : Int) => Res.ok (!decide (t58 = t59))).bind fun b => cond b   (((((Res.ok first_)).bind fun (t60 : (T3 Int Int Int)) => Res.ok t60.a).bind fun (t62 : Int) => (((Res.ok second_)).bind fun (t61 : (T3 Int Int Int)) => Res.ok t61.a).bind fun (t63 : Int) => Res.need (CDivW t62 t63) (Res.ok (t62 / t63))).bind fun (times_ : Int) =>   ((((((Res.ok first_)).bind fun (t64 : (T3 Int Int Int)) => Res.ok t64.a).bind fun (t68 : Int) => (((Res.ok times_)).bind fun (t66 : Int) => (((Res.ok second_)).bind fun (t65 : (T3 Int Int Int)) => Res.ok t65.a).bind fun (t67 : Int) => Res.need (CMulX t66 t67) (Res.ok (t66 * t67))).bind fun (t69 : Int) => Res.ok (t68 - t69)).bind fun a83 => (((((Res.ok first_)).bind fun (t70 : (T3 Int Int Int)) => Res.ok t70.b).bind fun (t74 : Int) => (((Res.ok times_)).bind fun (t72 : Int) => (((Res.ok second_)).bind fun (t71 : (T3 Int Int Int)) => Res.ok t71.b).bind fun (t73 : Int) => Res.need (CMulX t72 t73) (Res.ok (t72 * t73))).bind fun (t75 : Int) => Res.ok (t74 - t75)).bind fun a85 => (((((Res.ok first_)).bind fun (t76 : (T3 Int Int Int)) => Res.ok t76.c).bind fun (t80 : Int) => (((Res.ok times_)).bind fun (t78 : Int) => (((Res.ok second_)).bind fun (t77 : (T3 Int Int Int)) => Res.ok t77.c).bind fun (t79 : Int) => Res.need (CMulX t78 t79) (Res.ok (t78 * t79))).bind fun (t81 : Int) => Res.ok (t80 - t81)).bind fun a87 => (Res.ok ()).bind fun a88 => Res.ok (a87, a88)).bind fun a86 => Res.ok (a85, a86)).bind fun a84 => Res.ok (a83, a84)).bind fun p82 => Res.ok (T3.mk p82.1 p82.2.1 p82.2.2.1)).bind fun (rest_ : (T3 Int Int Int)) =>   ((Res.ok second_)).bind fun (p89 : (T3 Int Int Int)) => ((Res.ok rest_)).bind fun (p90 : (T3 Int Int Int)) =>   (fun (first_ : (T3 Int Int Int)) (second_ : (T3 Int Int Int)) => m_bezout_w1 k1 n1 (first_, second_)) p89 p90)   (k1 (first_, second_))
noncomputable def m_bezout_k3 : (T3 Int Int Int) × (T3 Int Int Int) → Res (T3 Int Int Int) := fun (first_, second_) =>   ((((Res.ok first_)).bind fun (t91 : (T3 Int Int Int)) => Res.ok t91.a).bind fun (t92 : Int) => ((Res.ok (0 : Int))).bind fun (t93 : Int) => Res.ok (decide (t92 < t93))).bind fun b => cond b   ((((((Res.ok first_)).bind fun (t94 : (T3 Int Int Int)) => Res.ok t94.a).bind fun (t95 : Int) => Res.ok (-t95)).bind fun a101 => (((((Res.ok first_)).bind fun (t96 : (T3 Int Int Int)) => Res.ok t96.b).bind fun (t97 : Int) => Res.ok (-t97)).bind fun a103 => (((((Res.ok first_)).bind fun (t98 : (T3 Int Int Int)) => Res.ok t98.c).bind fun (t99 : Int) => Res.ok (-t99)).bind fun a105 => (Res.ok ()).bind fun a106 => Res.ok (a105, a106)).bind fun a104 => Res.ok (a103, a104)).bind fun a102 => Res.ok (a101, a102)).bind fun p100 => Res.ok (T3.mk p100.1 p100.2.1 p100.2.2.1))   ((Res.ok first_))
noncomputable def m_bezout (a_ : Int) (b_ : Int) : Res (T3 Int Int Int) :=
  ((((Res.ok a_)).bind fun a44 => (((Res.ok (1 : Int))).bind fun a46 => (((Res.ok (0 : Int))).bind fun a48 => (Res.ok ()).bind fun a49 => Res.ok (a48, a49)).bind fun a47 => Res.ok (a46, a47)).bind fun a45 => Res.ok (a44, a45)).bind fun p43 => Res.ok (T3.mk p43.1 p43.2.1 p43.2.2.1)).bind fun (p107 : (T3 Int Int Int)) => ((((Res.ok b_)).bind fun a51 => (((Res.ok (0 : Int))).bind fun a53 => (((Res.ok (1 : Int))).bind fun a55 => (Res.ok ()).bind fun a56 => Res.ok (a55, a56)).bind fun a54 => Res.ok (a53, a54)).bind fun a52 => Res.ok (a51, a52)).bind fun p50 => Res.ok (T3.mk p50.1 p50.2.1 p50.2.2.1)).bind fun (p108 : (T3 Int Int Int)) =>   (fun (first_ : (T3 Int Int Int)) (second_ : (T3 Int Int Int)) => m_bezout_w1 (m_bezout_k3) (b_.natAbs + 1) (first_, second_)) p107 p108
theorem ok_bezout {P : Program} {w : World} {K : PySem.W.Frag} {mg : Str → Option Value} {base : Heap} (T : Facts K mg) {fd : FuncData} (F : FnP K "bezout" "bezout" s_bezout (He.ga K "bezout") fd) :
    FnOk P w K mg base (L2.CX P w) 1 (He.ga K "bezout") fd ["a", "b"] (spM K (fun (p : Int × Int × Unit) => m_bezout p.1 p.2.1)) := by
  refine fn_ok F sc_bezout (fun y => rfl) (fun cdv A outer s H E hr => ?_)
  refine ⟨_, (pss_cons (ps_par (i := 2) (j := 3) (by rfl) sc_bezout.nd rfl rfl (by decide) rfl rfl (pa_cons (pe_tup (pa_cons (pv 0) (pa_cons pe_int (pa_cons pe_int pa_nil)))) (pa_cons (pe_tup (pa_cons (pv 1) (pa_cons pe_int (pa_cons pe_int pa_nil)))) pa_nil)) (by rfl)) (pss_cons (ps_while (passes_of rfl) (pt_cmpR op_ne (pe_ix (cr_ixT rfl) (pv 3) pe_int (fun _ _ => rfl)) pe_int (nomark _)) (pss_cons (ps_set (i := 4) sc_bezout.nd rfl (Or.inl rfl) (pe_op op_fdivW (pe_ix (cr_ixT rfl) (pv 2) pe_int (fun _ _ => rfl)) (pe_ix (cr_ixT rfl) (pv 3) pe_int (fun _ _ => rfl)))) (pss_cons (ps_set (i := 5) sc_bezout.nd rfl (Or.inl rfl) (pe_tup (pa_cons (pe_op op_sub (pe_ix (cr_ixT rfl) (pv 2) pe_int (fun _ _ => rfl)) (pe_op op_mulX (pv 4) (pe_ix (cr_ixT rfl) (pv 3) pe_int (fun _ _ => rfl)))) (pa_cons (pe_op op_sub (pe_ix (cr_ixT rfl) (pv 2) pe_int (fun _ _ => rfl)) (pe_op op_mulX (pv 4) (pe_ix (cr_ixT rfl) (pv 3) pe_int (fun _ _ => rfl)))) (pa_cons (pe_op op_sub (pe_ix (cr_ixT rfl) (pv 2) pe_int (fun _ _ => rfl)) (pe_op op_mulX (pv 4) (pe_ix (cr_ixT rfl) (pv 3) pe_int (fun _ _ => rfl)))) pa_nil))))) (pss_one (ps_par (i := 2) (j := 3) (by rfl) sc_bezout.nd rfl rfl (by decide) rfl rfl (pa_cons (pv 3) (pa_cons (pv 5) pa_nil)) (by rfl)))))) (pss_cons (ps_if (pt_cmpR op_lt (pe_ix (cr_ixT rfl) (pv 2) pe_int (fun _ _ => rfl)) pe_int (nomark _)) (pss_one (ps_ret (pe_tup (pa_cons (pe_un un_neg (pe_ix (cr_ixT rfl) (pv 2) pe_int (fun _ _ => rfl))) (pa_cons (pe_un un_neg (pe_ix (cr_ixT rfl) (pv 2) pe_int (fun _ _ => rfl))) (pa_cons (pe_un un_neg (pe_ix (cr_ixT rfl) (pv 2) pe_int (fun _ _ => rfl))) pa_nil)))))) pss_nil) (pss_one (ps_ret (pv 2)))))), ?_⟩
  rintro ⟨a_, b_, ⟨⟩⟩ F0 H0 Q KP L
  show Blk K F0 H0 KP _ [some (.im (toD a_)), some (.im (toD b_)), none, none, none, none] (m_bezout a_ b_)
  unfold m_bezout
  have ha_ := ((ev_tup (f := (fun y => T3.mk y.1 y.2.1 y.2.2.1)) (ea_cons (ev_var (i := 0) (x := a_) rfl) (ea_cons (ev_int (i := 1)) (ea_cons (ev_int (i := 0)) ea_nil))) (fun _ => rfl) (fun _ => by show 3 ≤ 100000; decide)) : EvX K (W0 E) [some (.im (toD a_)), some (.im (toD b_)), none, none, none, none] _ _)
  have hb_ := ((ev_tup (f := (fun y => T3.mk y.1 y.2.1 y.2.2.1)) (ea_cons (ev_var (i := 1) (x := b_) rfl) (ea_cons (ev_int (i := 0)) (ea_cons (ev_int (i := 1)) ea_nil))) (fun _ => rfl) (fun _ => by show 3 ≤ 100000; decide)) : EvX K (W0 E) [some (.im (toD a_)), some (.im (toD b_)), none, none, none, none] _ _)
  refine blk_seq (blk_par (i := 2) (j := 3) L trivial ha_ hb_ fun first_ second_ => ?_)
  show Blk _ _ _ _ _ [some (.im (toD a_)), some (.im (toD b_)), some (.im (toD first_)), some (.im (toD second_)), none, none] _
  try refine Blk.nx ?_
  refine blk_seq (blk_while (S := (T3 Int Int Int) × (T3 Int Int Int)) (m_bezout_w1 (m_bezout_k3)) (fun (s : (T3 Int Int Int) × (T3 Int Int Int)) => match s with | (first_, second_) => (((Res.ok second_)).bind fun (t57 : (T3 Int Int Int)) => Res.ok t57.a).bind fun (t58 : Int) => ((Res.ok (0 : Int))).bind fun (t59 : Int) => Res.ok (!decide (t58 = t59))) (fun n s => match s with | (first_, second_) => ((((Res.ok first_)).bind fun (t60 : (T3 Int Int Int)) => Res.ok t60.a).bind fun (t62 : Int) => (((Res.ok second_)).bind fun (t61 : (T3 Int Int Int)) => Res.ok t61.a).bind fun (t63 : Int) => Res.need (CDivW t62 t63) (Res.ok (t62 / t63))).bind fun (times_ : Int) =>   ((((((Res.ok first_)).bind fun (t64 : (T3 Int Int Int)) => Res.ok t64.a).bind fun (t68 : Int) => (((Res.ok times_)).bind fun (t66 : Int) => (((Res.ok second_)).bind fun (t65 : (T3 Int Int Int)) => Res.ok t65.a).bind fun (t67 : Int) => Res.need (CMulX t66 t67) (Res.ok (t66 * t67))).bind fun (t69 : Int) => Res.ok (t68 - t69)).bind fun a83 => (((((Res.ok first_)).bind fun (t70 : (T3 Int Int Int)) => Res.ok t70.b).bind fun (t74 : Int) => (((Res.ok times_)).bind fun (t72 : Int) => (((Res.ok second_)).bind fun (t71 : (T3 Int Int Int)) => Res.ok t71.b).bind fun (t73 : Int) => Res.need (CMulX t72 t73) (Res.ok (t72 * t73))).bind fun (t75 : Int) => Res.ok (t74 - t75)).bind fun a85 => (((((Res.ok first_)).bind fun (t76 : (T3 Int Int Int)) => Res.ok t76.c).bind fun (t80 : Int) => (((Res.ok times_)).bind fun (t78 : Int) => (((Res.ok second_)).bind fun (t77 : (T3 Int Int Int)) => Res.ok t77.c).bind fun (t79 : Int) => Res.need (CMulX t78 t79) (Res.ok (t78 * t79))).bind fun (t81 : Int) => Res.ok (t80 - t81)).bind fun a87 => (Res.ok ()).bind fun a88 => Res.ok (a87, a88)).bind fun a86 => Res.ok (a85, a86)).bind fun a84 => Res.ok (a83, a84)).bind fun p82 => Res.ok (T3.mk p82.1 p82.2.1 p82.2.2.1)).bind fun (rest_ : (T3 Int Int Int)) =>   ((Res.ok second_)).bind fun (p89 : (T3 Int Int Int)) => ((Res.ok rest_)).bind fun (p90 : (T3 Int Int Int)) =>   (fun (first_ : (T3 Int Int Int)) (second_ : (T3 Int Int Int)) => m_bezout_w1 (m_bezout_k3) n (first_, second_)) p89 p90) (m_bezout_k3) (fun (first_, second_) => [some (.im (toD a_)), some (.im (toD b_)), some (.im (toD first_)), some (.im (toD second_)), none, none]) (first_, second_) (b_.natAbs + 1) L ?_ (.same (.same (.same (.same (.same (.same .nil)))))) ?_ (fun ⟨_, _⟩ => rfl) (fun _ ⟨_, _⟩ => rfl) ?_ ?_)
  · rintro ⟨first_, second_⟩
    exact trivial
  · rintro ⟨first_, second_⟩
    exact ((et_test (ev_op opx_neI mild_ok (ev_ixTC (i := 0) (f := fun x => x.a) (ev_var (i := 3) (x := second_) rfl) (fun x => ⟨_, rfl, rfl⟩)) (ev_int (i := 0)))) : EvT K (W0 E) [some (.im (toD a_)), some (.im (toD b_)), some (.im (toD first_)), some (.im (toD second_)), none, none] _ _)
  · intro n1 s_ N_ hN1
    obtain ⟨first_, second_⟩ := s_
    show Blk _ _ _ _ _ [some (.im (toD a_)), some (.im (toD b_)), some (.im (toD first_)), some (.im (toD second_)), none, none] _
    have hs_ := ((ev_op (opx_I (C := CDivW) (g := fun i j => i / j)) mild_need (ev_ixTC (i := 0) (f := fun x => x.a) (ev_var (i := 2) (x := first_) rfl) (fun x => ⟨_, rfl, rfl⟩)) (ev_ixTC (i := 0) (f := fun x => x.a) (ev_var (i := 3) (x := second_) rfl) (fun x => ⟨_, rfl, rfl⟩))) : EvX K (W0 E) [some (.im (toD a_)), some (.im (toD b_)), some (.im (toD first_)), some (.im (toD second_)), none, none] _ _)
    refine blk_seq (blk_set (i := 4) L trivial hs_ fun times_ => ?_)
    show Blk _ _ _ _ _ [some (.im (toD a_)), some (.im (toD b_)), some (.im (toD first_)), some (.im (toD second_)), some (.im (toD times_)), none] _
    try refine Blk.nx ?_
    have hs_ := ((ev_tup (f := (fun y => T3.mk y.1 y.2.1 y.2.2.1)) (ea_cons (ev_op (opx_I0 (g := fun i j => i - j)) mild_ok (ev_ixTC (i := 0) (f := fun x => x.a) (ev_var (i := 2) (x := first_) rfl) (fun x => ⟨_, rfl, rfl⟩)) (ev_op (opx_I (C := CMulX) (g := fun i j => i * j)) mild_need (ev_var (i := 4) (x := times_) rfl) (ev_ixTC (i := 0) (f := fun x => x.a) (ev_var (i := 3) (x := second_) rfl) (fun x => ⟨_, rfl, rfl⟩)))) (ea_cons (ev_op (opx_I0 (g := fun i j => i - j)) mild_ok (ev_ixTC (i := 1) (f := fun x => x.b) (ev_var (i := 2) (x := first_) rfl) (fun x => ⟨_, rfl, rfl⟩)) (ev_op (opx_I (C := CMulX) (g := fun i j => i * j)) mild_need (ev_var (i := 4) (x := times_) rfl) (ev_ixTC (i := 1) (f := fun x => x.b) (ev_var (i := 3) (x := second_) rfl) (fun x => ⟨_, rfl, rfl⟩)))) (ea_cons (ev_op (opx_I0 (g := fun i j => i - j)) mild_ok (ev_ixTC (i := 2) (f := fun x => x.c) (ev_var (i := 2) (x := first_) rfl) (fun x => ⟨_, rfl, rfl⟩)) (ev_op (opx_I (C := CMulX) (g := fun i j => i * j)) mild_need (ev_var (i := 4) (x := times_) rfl) (ev_ixTC (i := 2) (f := fun x => x.c) (ev_var (i := 3) (x := second_) rfl) (fun x => ⟨_, rfl, rfl⟩)))) ea_nil))) (fun _ => rfl) (fun _ => by show 3 ≤ 100000; decide)) : EvX K (W0 E) [some (.im (toD a_)), some (.im (toD b_)), some (.im (toD first_)), some (.im (toD second_)), some (.im (toD times_)), none] _ _)
    refine blk_seq (blk_set (i := 5) L trivial hs_ fun rest_ => ?_)
    show Blk _ _ _ _ _ [some (.im (toD a_)), some (.im (toD b_)), some (.im (toD first_)), some (.im (toD second_)), some (.im (toD times_)), some (.im (toD rest_))] _
    try refine Blk.nx ?_
    have ha_ := ((ev_var (i := 3) (x := second_) rfl) : EvX K (W0 E) [some (.im (toD a_)), some (.im (toD b_)), some (.im (toD first_)), some (.im (toD second_)), some (.im (toD times_)), some (.im (toD rest_))] _ _)
    have hb_ := ((ev_var (i := 5) (x := rest_) rfl) : EvX K (W0 E) [some (.im (toD a_)), some (.im (toD b_)), some (.im (toD first_)), some (.im (toD second_)), some (.im (toD times_)), some (.im (toD rest_))] _ _)
    refine blk_par (i := 2) (j := 3) L trivial ha_ hb_ fun first_ second_ => ?_
    show Blk _ _ _ _ _ [some (.im (toD a_)), some (.im (toD b_)), some (.im (toD first_)), some (.im (toD second_)), some (.im (toD times_)), some (.im (toD rest_))] _
    try refine Blk.nx ?_
    exact (hN1 (first_, second_)).weak (.same (.same (.same (.same (.drop (.drop .nil))))))
  · rintro ⟨first_, second_⟩
    show Blk _ _ _ _ _ [some (.im (toD a_)), some (.im (toD b_)), some (.im (toD first_)), some (.im (toD second_)), none, none] ((m_bezout_k3) (first_, second_))
    unfold m_bezout_k3
    try refine Blk.nx ?_
    have ht_ := ((et_test (ev_op (opx_B0 (g := fun i j => decide (i < j))) mild_ok (ev_ixTC (i := 0) (f := fun x => x.a) (ev_var (i := 2) (x := first_) rfl) (fun x => ⟨_, rfl, rfl⟩)) (ev_int (i := 0)))) : EvT K (W0 E) [some (.im (toD a_)), some (.im (toD b_)), some (.im (toD first_)), some (.im (toD second_)), none, none] _ _)
    refine blk_seq (blk_if2 L trivial ht_ ?_ ?_)
    · have hr_ := ((ev_tup (f := (fun y => T3.mk y.1 y.2.1 y.2.2.1)) (ea_cons (ev_un (g := fun i => -i) (ev_ixTC (i := 0) (f := fun x => x.a) (ev_var (i := 2) (x := first_) rfl) (fun x => ⟨_, rfl, rfl⟩))) (ea_cons (ev_un (g := fun i => -i) (ev_ixTC (i := 1) (f := fun x => x.b) (ev_var (i := 2) (x := first_) rfl) (fun x => ⟨_, rfl, rfl⟩))) (ea_cons (ev_un (g := fun i => -i) (ev_ixTC (i := 2) (f := fun x => x.c) (ev_var (i := 2) (x := first_) rfl) (fun x => ⟨_, rfl, rfl⟩))) ea_nil))) (fun _ => rfl) (fun _ => by show 3 ≤ 100000; decide)) : EvX K (W0 E) [some (.im (toD a_)), some (.im (toD b_)), some (.im (toD first_)), some (.im (toD second_)), none, none] _ _)
      exact blk_ret L trivial hr_
    · refine blk_nil ?_
      try refine Blk.nx ?_
      have hr_ := ((ev_var (i := 2) (x := first_) rfl) : EvX K (W0 E) [some (.im (toD a_)), some (.im (toD b_)), some (.im (toD first_)), some (.im (toD second_)), none, none] _ _)
      exact blk_ret L trivial hr_
noncomputable def m_inverse (a_ : Int) (modulus_ : Int) : Res Int :=
  (((((Res.ok a_)).bind fun (t109 : Int) => ((Res.ok modulus_)).bind fun (t110 : Int) => Res.need (0 < t110) (Res.ok (t109 % t110))).bind fun a112 => (((Res.ok modulus_)).bind fun a114 => (Res.ok ()).bind fun a115 => Res.ok (a114, a115)).bind fun a113 => Res.ok (a112, a113)).bind fun p111 => m_bezout p111.1 p111.2.1).bind fun (u116 : (T3 Int Int Int)) =>   (fun (divisor_ : Int) (factor_ : Int) (u__ : Int) => (((Res.ok divisor_)).bind fun (t117 : Int) => ((Res.ok (1 : Int))).bind fun (t118 : Int) => Res.ok (!decide (t117 = t118))).bind fun b => cond b   (Res.exc "NoInverse")   (((Res.ok factor_)).bind fun (t119 : Int) => ((Res.ok modulus_)).bind fun (t120 : Int) => Res.need (0 < t120) (Res.ok (t119 % t120)))) u116.a u116.b u116.c
theorem ok_inverse {P : Program} {w : World} {K : PySem.W.Frag} {mg : Str → Option Value} {base : Heap} (T : Facts K mg) {fd : FuncData} (F : FnP K "inverse" "inverse" s_inverse (He.ga K "inverse") fd) :
    FnOk P w K mg base (L2.CX P w) 2 (He.ga K "inverse") fd ["a", "modulus"] (spM K (fun (p : Int × Int × Unit) => m_inverse p.1 p.2.1)) := by
  obtain ⟨fd_bezout, F_bezout⟩ := T.d_bezout
  have G_bezout := ok_bezout (P := P) (w := w) (base := base) T F_bezout
  have b_bezout : Binds K fd_bezout ["a", "b"] [] := F_bezout.bindsN fun _ _ _ _ _ _ us hl => match us, hl with | [_, _], _ => rfl
  refine fn_ok F sc_inverse (fun y => rfl) (fun cdv A outer s H E hr => ?_)
  refine ⟨_, (pss_cons (ps_asg (pe_callS G_bezout (hr.mono (by decide)) rfl T.g_bezout F_bezout.kp b_bezout (fun σ => passAt (takes_of rfl rfl rfl rfl) σ) (pa_cons (pe_op op_mod (pv 0) (pv 1)) (pa_cons (pv 1) pa_nil))) (pg_tup rfl (pgs_cons (pg_name (i := 2) sc_inverse.nd rfl (Or.inl rfl)) (pgs_cons (pg_name (i := 3) sc_inverse.nd rfl (Or.inl rfl)) (pgs_cons (pg_name (i := 4) sc_inverse.nd rfl (Or.inl rfl)) pgs_nil))))) (pss_cons (ps_if (pt_cmpR op_ne (pv 2) pe_int (nomark _)) (pss_one (ps_raise rfl (takes_of rfl rfl rfl rfl) (pmk_own PySem.F.excBase_ValueError T.x_NoInverse T.g_NoInverse T.k_NoInverse (raises_own T.b_NoInverse T.t_NoInverse) rfl))) pss_nil) (pss_one (ps_ret (pe_op op_mod (pv 3) (pv 1)))))), ?_⟩
  rintro ⟨a_, modulus_, ⟨⟩⟩ F0 H0 Q KP L
  show Blk K F0 H0 KP _ [some (.im (toD a_)), some (.im (toD modulus_)), none, none, none] (m_inverse a_ modulus_)
  unfold m_inverse
  have hs_ := ((ev_call (f := (fun (p : Int × Int × Unit) => m_bezout p.1 p.2.1)) (ea_cons (ev_op (opx_I (C := (fun _ j => 0 < j)) (g := fun i j => i % j)) mild_need (ev_var (i := 0) (x := a_) rfl) (ev_var (i := 1) (x := modulus_) rfl)) (ea_cons (ev_var (i := 1) (x := modulus_) rfl) ea_nil))) : EvX K (W0 E) [some (.im (toD a_)), some (.im (toD modulus_)), none, none, none] _ _)
  refine blk_seq (blk_asg L trivial hs_ (fun _ => (gx_tup (gxs_cons gx_name (gxs_cons gx_name (gxs_cons gx_name gxs_nil))) rfl)) fun u116 => ?_)
  show Blk _ _ _ _ _ [some (.im (toD a_)), some (.im (toD modulus_)), some (.im (toD u116.a)), some (.im (toD u116.b)), some (.im (toD u116.c))] ((fun (divisor_ : Int) (factor_ : Int) (u__ : Int) => _) u116.a u116.b u116.c)
  generalize u116.a = divisor_
  generalize u116.b = factor_
  generalize u116.c = u__
  show Blk _ _ _ _ _ [some (.im (toD a_)), some (.im (toD modulus_)), some (.im (toD divisor_)), some (.im (toD factor_)), some (.im (toD u__))] _
  try refine Blk.nx ?_
  have ht_ := ((et_test (ev_op opx_neI mild_ok (ev_var (i := 2) (x := divisor_) rfl) (ev_int (i := 1)))) : EvT K (W0 E) [some (.im (toD a_)), some (.im (toD modulus_)), some (.im (toD divisor_)), some (.im (toD factor_)), some (.im (toD u__))] _ _)
  refine blk_seq (blk_if2 L trivial ht_ ?_ ?_)
  · exact blk_raise L trivial
  · refine blk_nil ?_
    try refine Blk.nx ?_
    have hr_ := ((ev_op (opx_I (C := (fun _ j => 0 < j)) (g := fun i j => i % j)) mild_need (ev_var (i := 3) (x := factor_) rfl) (ev_var (i := 1) (x := modulus_) rfl)) : EvX K (W0 E) [some (.im (toD a_)), some (.im (toD modulus_)), some (.im (toD divisor_)), some (.im (toD factor_)), some (.im (toD u__))] _ _)
    exact blk_ret L trivial hr_
noncomputable def m_Curve_u_slope_k1 (self_ : O_Curve) : Int × Int → Res Int := fun (rise_, run_) =>   (((Res.ok rise_)).bind fun (t129 : Int) => ((((Res.ok run_)).bind fun a125 => ((((Res.ok self_)).bind fun (t123 : O_Curve) => Res.ok t123.f_prime).bind fun a127 => (Res.ok ()).bind fun a128 => Res.ok (a127, a128)).bind fun a126 => Res.ok (a125, a126)).bind fun p124 => m_inverse p124.1 p124.2.1).bind fun (t130 : Int) => Res.need (CMulX t129 t130) (Res.ok (t129 * t130))).bind fun (t132 : Int) => (((Res.ok self_)).bind fun (t131 : O_Curve) => Res.ok t131.f_prime).bind fun (t133 : Int) => Res.need (0 < t133) (Res.ok (t132 % t133))
noncomputable def m_Curve_u_slope (self_ : O_Curve) (first_ : (T2 Int Int)) (second_ : (T2 Int Int)) : Res Int :=
  (((Res.ok first_)).bind fun (t121 : (T2 Int Int)) => ((Res.ok second_)).bind fun (t122 : (T2 Int Int)) => Res.need ((toD t121).okq = true ∧ (toD t122).okq = true) (Res.ok (pyEq (toD t121) (toD t122)))).bind fun b => cond b   (((((Res.ok (3 : Int))).bind fun (t137 : Int) => ((((Res.ok first_)).bind fun (t134 : (T2 Int Int)) => Res.ok t134.a).bind fun (t135 : Int) => ((Res.ok (2 : Int))).bind fun (t136 : Int) => Res.need (CPowX t135 t136) (Res.ok (t135 ^ t136.toNat))).bind fun (t138 : Int) => Res.ok (t137 * t138)).bind fun (t140 : Int) => (((Res.ok self_)).bind fun (t139 : O_Curve) => Res.ok t139.f_a).bind fun (t141 : Int) => Res.ok (t140 + t141)).bind fun (p145 : Int) => (((Res.ok (2 : Int))).bind fun (t143 : Int) => (((Res.ok first_)).bind fun (t142 : (T2 Int Int)) => Res.ok t142.b).bind fun (t144 : Int) => Res.ok (t143 * t144)).bind fun (p146 : Int) =>   (fun (rise_ : Int) (run_ : Int) => (m_Curve_u_slope_k1 self_) (rise_, run_)) p145 p146)   (((((Res.ok second_)).bind fun (t147 : (T2 Int Int)) => Res.ok t147.b).bind fun (t149 : Int) => (((Res.ok first_)).bind fun (t148 : (T2 Int Int)) => Res.ok t148.b).bind fun (t150 : Int) => Res.ok (t149 - t150)).bind fun (p155 : Int) => ((((Res.ok second_)).bind fun (t151 : (T2 Int Int)) => Res.ok t151.a).bind fun (t153 : Int) => (((Res.ok first_)).bind fun (t152 : (T2 Int Int)) => Res.ok t152.a).bind fun (t154 : Int) => Res.ok (t153 - t154)).bind fun (p156 : Int) =>   (fun (rise_ : Int) (run_ : Int) => (m_Curve_u_slope_k1 self_) (rise_, run_)) p155 p156)
theorem ok_Curve_u_slope {P : Program} {w : World} {K : PySem.W.Frag} {mg : Str → Option Value} {base : Heap} (T : Facts K mg) {fd : FuncData} (F : FnP K "_slope" "Curve._slope" s_Curve_u_slope (He.ma K (He.ga K "Curve") "_slope") fd) :
    FnOk P w K mg base (L2.CX P w) 3 (He.ma K (He.ga K "Curve") "_slope") fd ["self", "first", "second"] (spM K (fun (p : O_Curve × (T2 Int Int) × (T2 Int Int) × Unit) => m_Curve_u_slope p.1 p.2.1 p.2.2.1)) := by
  obtain ⟨fd_inverse, F_inverse⟩ := T.d_inverse
  have G_inverse := ok_inverse (P := P) (w := w) (base := base) T F_inverse
  have b_inverse : Binds K fd_inverse ["a", "modulus"] [] := F_inverse.bindsN fun _ _ _ _ _ _ us hl => match us, hl with | [_, _], _ => rfl
  refine fn_ok F sc_Curve_u_slope (fun y => rfl) (fun cdv A outer s H E hr => ?_)
  refine ⟨_, (pss_cons (ps_if (pt_cmpR (op_eqD (Room.units hr)) (pv 1) (pv 2) (nomark _)) (pss_one (ps_par (i := 3) (j := 4) (by rfl) sc_Curve_u_slope.nd rfl rfl (by decide) rfl rfl (pa_cons (pe_op op_add (pe_op op_mul pe_int (pe_op op_powX (pe_ix (cr_ixT rfl) (pv 1) pe_int (fun _ _ => rfl)) pe_int)) (pe_fld (pv 0) rfl)) (pa_cons (pe_op op_mul pe_int (pe_ix (cr_ixT rfl) (pv 1) pe_int (fun _ _ => rfl))) pa_nil)) (by rfl))) (pss_one (ps_par (i := 3) (j := 4) (by rfl) sc_Curve_u_slope.nd rfl rfl (by decide) rfl rfl (pa_cons (pe_op op_sub (pe_ix (cr_ixT rfl) (pv 2) pe_int (fun _ _ => rfl)) (pe_ix (cr_ixT rfl) (pv 1) pe_int (fun _ _ => rfl))) (pa_cons (pe_op op_sub (pe_ix (cr_ixT rfl) (pv 2) pe_int (fun _ _ => rfl)) (pe_ix (cr_ixT rfl) (pv 1) pe_int (fun _ _ => rfl))) pa_nil)) (by rfl)))) (pss_one (ps_ret (pe_op op_mod (pe_op op_mulX (pv 3) (pe_callS G_inverse (hr.mono (by decide)) rfl T.g_inverse F_inverse.kp b_inverse (fun σ => passAt (takes_of rfl rfl rfl rfl) σ) (pa_cons (pv 4) (pa_cons (pe_fld (pv 0) rfl) pa_nil)))) (pe_fld (pv 0) rfl))))), ?_⟩
  rintro ⟨self_, first_, second_, ⟨⟩⟩ F0 H0 Q KP L
  show Blk K F0 H0 KP _ [some (.im (toD self_)), some (.im (toD first_)), some (.im (toD second_)), none, none] (m_Curve_u_slope self_ first_ second_)
  unfold m_Curve_u_slope
  have ht_ := ((et_test (ev_op opx_eqD mild_need (ev_var (i := 1) (x := first_) rfl) (ev_var (i := 2) (x := second_) rfl))) : EvT K (W0 E) [some (.im (toD self_)), some (.im (toD first_)), some (.im (toD second_)), none, none] _ _)
  refine blk_seq (blk_ifj (S := Int × Int) (fun (rise_, run_) => [some (.im (toD self_)), some (.im (toD first_)), some (.im (toD second_)), some (.im (toD rise_)), some (.im (toD run_))]) (m_Curve_u_slope_k1 self_) L trivial ht_ ?_ ?_ ?_)
  · rintro ⟨rise_, run_⟩
    show Blk _ _ _ _ _ [some (.im (toD self_)), some (.im (toD first_)), some (.im (toD second_)), some (.im (toD rise_)), some (.im (toD run_))] ((m_Curve_u_slope_k1 self_) (rise_, run_))
    unfold m_Curve_u_slope_k1
    try refine Blk.nx ?_
    have hr_ := ((ev_op (opx_I (C := (fun _ j => 0 < j)) (g := fun i j => i % j)) mild_need (ev_op (opx_I (C := CMulX) (g := fun i j => i * j)) mild_need (ev_var (i := 3) (x := rise_) rfl) (ev_call (f := (fun (p : Int × Int × Unit) => m_inverse p.1 p.2.1)) (ea_cons (ev_var (i := 4) (x := run_) rfl) (ea_cons (ev_fld (g := fun (x : O_Curve) => x.f_prime) (c := "Curve") (ks := ["prime", "a", "b"]) (j := 0) (ev_var (i := 0) (x := self_) rfl) T.cl_Curve T.nf_Curve_prime (by decide +kernel) (fun _ => ⟨_, rfl, rfl⟩)) ea_nil)))) (ev_fld (g := fun (x : O_Curve) => x.f_prime) (c := "Curve") (ks := ["prime", "a", "b"]) (j := 0) (ev_var (i := 0) (x := self_) rfl) T.cl_Curve T.nf_Curve_prime (by decide +kernel) (fun _ => ⟨_, rfl, rfl⟩))) : EvX K (W0 E) [some (.im (toD self_)), some (.im (toD first_)), some (.im (toD second_)), some (.im (toD rise_)), some (.im (toD run_))] _ _)
    exact blk_ret L trivial hr_
  · intro hk1
    have ha_ := ((ev_op (opx_I0 (g := fun i j => i + j)) mild_ok (ev_opI (C := CMul) (g := fun i j => i * j) (fun x y h _ => by cases h; exact .inl (by decide)) (ev_int (i := 3)) (ev_op (opx_I (C := CPowX) (g := fun i j => i ^ j.toNat)) mild_need (ev_ixTC (i := 0) (f := fun x => x.a) (ev_var (i := 1) (x := first_) rfl) (fun x => ⟨_, rfl, rfl⟩)) (ev_int (i := 2)))) (ev_fld (g := fun (x : O_Curve) => x.f_a) (c := "Curve") (ks := ["prime", "a", "b"]) (j := 1) (ev_var (i := 0) (x := self_) rfl) T.cl_Curve T.nf_Curve_a (by decide +kernel) (fun _ => ⟨_, rfl, rfl⟩))) : EvX K (W0 E) [some (.im (toD self_)), some (.im (toD first_)), some (.im (toD second_)), none, none] _ _)
    have hb_ := ((ev_opI (C := CMul) (g := fun i j => i * j) (fun x y h _ => by cases h; exact .inl (by decide)) (ev_int (i := 2)) (ev_ixTC (i := 1) (f := fun x => x.b) (ev_var (i := 1) (x := first_) rfl) (fun x => ⟨_, rfl, rfl⟩))) : EvX K (W0 E) [some (.im (toD self_)), some (.im (toD first_)), some (.im (toD second_)), none, none] _ _)
    refine blk_par (i := 3) (j := 4) L trivial ha_ hb_ fun rise_ run_ => ?_
    show Blk _ _ _ _ _ [some (.im (toD self_)), some (.im (toD first_)), some (.im (toD second_)), some (.im (toD rise_)), some (.im (toD run_))] _
    try refine Blk.nx ?_
    exact (hk1 (rise_, run_)).weak (.same (.same (.same (.same (.same .nil)))))
  · intro hk1
    have ha_ := ((ev_op (opx_I0 (g := fun i j => i - j)) mild_ok (ev_ixTC (i := 1) (f := fun x => x.b) (ev_var (i := 2) (x := second_) rfl) (fun x => ⟨_, rfl, rfl⟩)) (ev_ixTC (i := 1) (f := fun x => x.b) (ev_var (i := 1) (x := first_) rfl) (fun x => ⟨_, rfl, rfl⟩))) : EvX K (W0 E) [some (.im (toD self_)), some (.im (toD first_)), some (.im (toD second_)), none, none] _ _)
    have hb_ := ((ev_op (opx_I0 (g := fun i j => i - j)) mild_ok (ev_ixTC (i := 0) (f := fun x => x.a) (ev_var (i := 2) (x := second_) rfl) (fun x => ⟨_, rfl, rfl⟩)) (ev_ixTC (i := 0) (f := fun x => x.a) (ev_var (i := 1) (x := first_) rfl) (fun x => ⟨_, rfl, rfl⟩))) : EvX K (W0 E) [some (.im (toD self_)), some (.im (toD first_)), some (.im (toD second_)), none, none] _ _)
    refine blk_par (i := 3) (j := 4) L trivial ha_ hb_ fun rise_ run_ => ?_
    show Blk _ _ _ _ _ [some (.im (toD self_)), some (.im (toD first_)), some (.im (toD second_)), some (.im (toD rise_)), some (.im (toD run_))] _
    try refine Blk.nx ?_
    exact (hk1 (rise_, run_)).weak (.same (.same (.same (.same (.same .nil)))))
noncomputable def m_Curve_negate (self_ : O_Curve) (point_ : (Option (T2 Int Int))) : Res (Option (T2 Int Int)) :=
  (((Res.ok point_)).bind fun (t157 : (Option (T2 Int Int))) => ((Res.ok ())).bind fun (t158 : Unit) => Res.ok (toD t157).isNon).bind fun b => cond b   ((Res.ok (none : (Option (T2 Int Int)))))   (((((((Res.ok point_)).bind optGet).bind fun (t159 : (T2 Int Int)) => Res.ok t159.a).bind fun a166 => (((((((Res.ok point_)).bind optGet).bind fun (t160 : (T2 Int Int)) => Res.ok t160.b).bind fun (t161 : Int) => Res.ok (-t161)).bind fun (t163 : Int) => (((Res.ok self_)).bind fun (t162 : O_Curve) => Res.ok t162.f_prime).bind fun (t164 : Int) => Res.need (0 < t164) (Res.ok (t163 % t164))).bind fun a168 => (Res.ok ()).bind fun a169 => Res.ok (a168, a169)).bind fun a167 => Res.ok (a166, a167)).bind fun p165 => Res.ok (T2.mk p165.1 p165.2.1)).bind fun (x : (T2 Int Int)) => Res.ok (some x))
theorem ok_Curve_negate {P : Program} {w : World} {K : PySem.W.Frag} {mg : Str → Option Value} {base : Heap} (T : Facts K mg) {fd : FuncData} (F : FnP K "negate" "Curve.negate" s_Curve_negate (He.ma K (He.ga K "Curve") "negate") fd) :
    FnOk P w K mg base (L2.CX P w) 1 (He.ma K (He.ga K "Curve") "negate") fd ["self", "point"] (spM K (fun (p : O_Curve × (Option (T2 Int Int)) × Unit) => m_Curve_negate p.1 p.2.1)) := by
  refine fn_ok F sc_Curve_negate (fun y => rfl) (fun cdv A outer s H E hr => ?_)
  refine ⟨_, (pss_cons (ps_if (pt_cmpR op_isN (pv 1) pe_non (nomark _)) (pss_one (ps_ret pe_non)) pss_nil) (pss_one (ps_ret (pe_tup (pa_cons (pe_ix (cr_ixT rfl) (pv 1) pe_int (fun _ _ => rfl)) (pa_cons (pe_op op_mod (pe_un un_neg (pe_ix (cr_ixT rfl) (pv 1) pe_int (fun _ _ => rfl))) (pe_fld (pv 0) rfl)) pa_nil)))))), ?_⟩
  rintro ⟨self_, point_, ⟨⟩⟩ F0 H0 Q KP L
  show Blk K F0 H0 KP _ [some (.im (toD self_)), some (.im (toD point_))] (m_Curve_negate self_ point_)
  unfold m_Curve_negate
  have ht_ := ((et_test (ev_op opx_isN mild_ok (ev_var (i := 1) (x := point_) rfl) ev_non)) : EvT K (W0 E) [some (.im (toD self_)), some (.im (toD point_))] _ _)
  refine blk_seq (blk_if2 L trivial ht_ ?_ ?_)
  · have hr_ := ((ev_noneO (α := (T2 Int Int))) : EvX K (W0 E) [some (.im (toD self_)), some (.im (toD point_))] _ _)
    exact blk_ret L trivial hr_
  · refine blk_nil ?_
    try refine Blk.nx ?_
    have hr_ := ((ev_as (ev_tup (f := (fun y => T2.mk y.1 y.2.1)) (ea_cons (ev_ixTC (i := 0) (f := fun x => x.a) (ev_castG (f := optGet) optGet_ok optGet_x (ev_var (i := 1) (x := point_) rfl)) (fun x => ⟨_, rfl, rfl⟩)) (ea_cons (ev_op (opx_I (C := (fun _ j => 0 < j)) (g := fun i j => i % j)) mild_need (ev_un (g := fun i => -i) (ev_ixTC (i := 1) (f := fun x => x.b) (ev_castG (f := optGet) optGet_ok optGet_x (ev_var (i := 1) (x := point_) rfl)) (fun x => ⟨_, rfl, rfl⟩))) (ev_fld (g := fun (x : O_Curve) => x.f_prime) (c := "Curve") (ks := ["prime", "a", "b"]) (j := 0) (ev_var (i := 0) (x := self_) rfl) T.cl_Curve T.nf_Curve_prime (by decide +kernel) (fun _ => ⟨_, rfl, rfl⟩))) ea_nil)) (fun _ => rfl) (fun _ => by show 2 ≤ 100000; decide)) some (fun _ => rfl) rfl) : EvX K (W0 E) [some (.im (toD self_)), some (.im (toD point_))] _ _)
    exact blk_ret L trivial hr_
noncomputable def m_Curve_add (self_ : O_Curve) (first_ : (Option (T2 Int Int))) (second_ : (Option (T2 Int Int))) : Res (Option (T2 Int Int)) :=
  (((Res.ok first_)).bind fun (t170 : (Option (T2 Int Int))) => ((Res.ok ())).bind fun (t171 : Unit) => Res.ok (toD t170).isNon).bind fun b => cond b   ((Res.ok second_))   ((((Res.ok second_)).bind fun (t172 : (Option (T2 Int Int))) => ((Res.ok ())).bind fun (t173 : Unit) => Res.ok (toD t172).isNon).bind fun b => cond b   ((Res.ok first_))   ((((Res.ok second_)).bind fun (t178 : (Option (T2 Int Int))) => (((Res.ok self_)).bind fun (o174 : O_Curve) => (((Res.ok first_)).bind fun a176 => (Res.ok ()).bind fun a177 => Res.ok (a176, a177)).bind fun p175 => m_Curve_negate o174 p175.1).bind fun (t179 : (Option (T2 Int Int))) => Res.need ((toD t178).okq = true ∧ (toD t179).okq = true) (Res.ok (pyEq (toD t178) (toD t179)))).bind fun b => cond b   ((Res.ok (none : (Option (T2 Int Int)))))   ((((Res.ok self_)).bind fun (o180 : O_Curve) => ((((Res.ok first_)).bind optGet).bind fun a182 => ((((Res.ok second_)).bind optGet).bind fun a184 => (Res.ok ()).bind fun a185 => Res.ok (a184, a185)).bind fun a183 => Res.ok (a182, a183)).bind fun p181 => m_Curve_u_slope o180 p181.1 p181.2.1).bind fun (slope_ : Int) =>   ((((((Res.ok slope_)).bind fun (t186 : Int) => ((Res.ok (2 : Int))).bind fun (t187 : Int) => Res.need (CPowX t186 t187) (Res.ok (t186 ^ t187.toNat))).bind fun (t189 : Int) => ((((Res.ok first_)).bind optGet).bind fun (t188 : (T2 Int Int)) => Res.ok t188.a).bind fun (t190 : Int) => Res.ok (t189 - t190)).bind fun (t192 : Int) => ((((Res.ok second_)).bind optGet).bind fun (t191 : (T2 Int Int)) => Res.ok t191.a).bind fun (t193 : Int) => Res.ok (t192 - t193)).bind fun (t195 : Int) => (((Res.ok self_)).bind fun (t194 : O_Curve) => Res.ok t194.f_prime).bind fun (t196 : Int) => Res.need (0 < t196) (Res.ok (t195 % t196))).bind fun (x_ : Int) =>   ((((Res.ok x_)).bind fun a209 => ((((((Res.ok slope_)).bind fun (t200 : Int) => (((((Res.ok first_)).bind optGet).bind fun (t197 : (T2 Int Int)) => Res.ok t197.a).bind fun (t198 : Int) => ((Res.ok x_)).bind fun (t199 : Int) => Res.ok (t198 - t199)).bind fun (t201 : Int) => Res.need (CMulX t200 t201) (Res.ok (t200 * t201))).bind fun (t203 : Int) => ((((Res.ok first_)).bind optGet).bind fun (t202 : (T2 Int Int)) => Res.ok t202.b).bind fun (t204 : Int) => Res.ok (t203 - t204)).bind fun (t206 : Int) => (((Res.ok self_)).bind fun (t205 : O_Curve) => Res.ok t205.f_prime).bind fun (t207 : Int) => Res.need (0 < t207) (Res.ok (t206 % t207))).bind fun a211 => (Res.ok ()).bind fun a212 => Res.ok (a211, a212)).bind fun a210 => Res.ok (a209, a210)).bind fun p208 => Res.ok (T2.mk p208.1 p208.2.1)).bind fun (x : (T2 Int Int)) => Res.ok (some x))))
theorem ok_Curve_add {P : Program} {w : World} {K : PySem.W.Frag} {mg : Str → Option Value} {base : Heap} (T : Facts K mg) {fd : FuncData} (F : FnP K "add" "Curve.add" s_Curve_add (He.ma K (He.ga K "Curve") "add") fd) :
    FnOk P w K mg base (L2.CX P w) 4 (He.ma K (He.ga K "Curve") "add") fd ["self", "first", "second"] (spM K (fun (p : O_Curve × (Option (T2 Int Int)) × (Option (T2 Int Int)) × Unit) => m_Curve_add p.1 p.2.1 p.2.2.1)) := by
  obtain ⟨fd_Curve_u_slope, F_Curve_u_slope⟩ := T.d_Curve_u_slope
  have G_Curve_u_slope := ok_Curve_u_slope (P := P) (w := w) (base := base) T F_Curve_u_slope
  have b_Curve_u_slope : Binds K fd_Curve_u_slope ["self", "first", "second"] [] := F_Curve_u_slope.bindsN fun _ _ _ _ _ _ us hl => match us, hl with | [_, _, _], _ => rfl
  obtain ⟨fd_Curve_negate, F_Curve_negate⟩ := T.d_Curve_negate
  have G_Curve_negate := ok_Curve_negate (P := P) (w := w) (base := base) T F_Curve_negate
  have b_Curve_negate : Binds K fd_Curve_negate ["self", "point"] [] := F_Curve_negate.bindsN fun _ _ _ _ _ _ us hl => match us, hl with | [_, _], _ => rfl
  refine fn_ok F sc_Curve_add (fun y => rfl) (fun cdv A outer s H E hr => ?_)
  refine ⟨_, (pss_cons (ps_if (pt_cmpR op_isN (pv 1) pe_non (nomark _)) (pss_one (ps_ret (pv 2))) pss_nil) (pss_cons (ps_if (pt_cmpR op_isN (pv 2) pe_non (nomark _)) (pss_one (ps_ret (pv 1))) pss_nil) (pss_cons (ps_if (pt_cmpR (op_eqD (Room.units hr)) (pv 2) (pe_methQ (pv 0) T.cl_Curve T.mt_Curve_negate G_Curve_negate (hr.mono (by decide)) b_Curve_negate (fun σ => passAt (takes_of rfl rfl rfl rfl) σ) (pa_cons (pv 1) pa_nil)) (nomark _)) (pss_one (ps_ret pe_non)) pss_nil) (pss_cons (ps_set (i := 3) sc_Curve_add.nd rfl (Or.inl rfl) (pe_methQ (pv 0) T.cl_Curve T.mt_Curve_u_slope G_Curve_u_slope (hr.mono (by decide)) b_Curve_u_slope (fun σ => passAt (takes_of rfl rfl rfl rfl) σ) (pa_cons (pv 1) (pa_cons (pv 2) pa_nil)))) (pss_cons (ps_set (i := 4) sc_Curve_add.nd rfl (Or.inl rfl) (pe_op op_mod (pe_op op_sub (pe_op op_sub (pe_op op_powX (pv 3) pe_int) (pe_ix (cr_ixT rfl) (pv 1) pe_int (fun _ _ => rfl))) (pe_ix (cr_ixT rfl) (pv 2) pe_int (fun _ _ => rfl))) (pe_fld (pv 0) rfl))) (pss_one (ps_ret (pe_tup (pa_cons (pv 4) (pa_cons (pe_op op_mod (pe_op op_sub (pe_op op_mulX (pv 3) (pe_op op_sub (pe_ix (cr_ixT rfl) (pv 1) pe_int (fun _ _ => rfl)) (pv 4))) (pe_ix (cr_ixT rfl) (pv 1) pe_int (fun _ _ => rfl))) (pe_fld (pv 0) rfl)) pa_nil)))))))))), ?_⟩
  rintro ⟨self_, first_, second_, ⟨⟩⟩ F0 H0 Q KP L
  show Blk K F0 H0 KP _ [some (.im (toD self_)), some (.im (toD first_)), some (.im (toD second_)), none, none] (m_Curve_add self_ first_ second_)
  unfold m_Curve_add
  have ht_ := ((et_test (ev_op opx_isN mild_ok (ev_var (i := 1) (x := first_) rfl) ev_non)) : EvT K (W0 E) [some (.im (toD self_)), some (.im (toD first_)), some (.im (toD second_)), none, none] _ _)
  refine blk_seq (blk_if2 L trivial ht_ ?_ ?_)
  · have hr_ := ((ev_var (i := 2) (x := second_) rfl) : EvX K (W0 E) [some (.im (toD self_)), some (.im (toD first_)), some (.im (toD second_)), none, none] _ _)
    exact blk_ret L trivial hr_
  · refine blk_nil ?_
    try refine Blk.nx ?_
    have ht_ := ((et_test (ev_op opx_isN mild_ok (ev_var (i := 2) (x := second_) rfl) ev_non)) : EvT K (W0 E) [some (.im (toD self_)), some (.im (toD first_)), some (.im (toD second_)), none, none] _ _)
    refine blk_seq (blk_if2 L trivial ht_ ?_ ?_)
    · have hr_ := ((ev_var (i := 1) (x := first_) rfl) : EvX K (W0 E) [some (.im (toD self_)), some (.im (toD first_)), some (.im (toD second_)), none, none] _ _)
      exact blk_ret L trivial hr_
    · refine blk_nil ?_
      try refine Blk.nx ?_
      have ht_ := ((et_test (ev_op opx_eqD mild_need (ev_var (i := 2) (x := second_) rfl) (ev_meth (c := "Curve") (m := "negate") (ks := ["prime", "a", "b"]) (f := (fun (p : O_Curve × (Option (T2 Int Int)) × Unit) => m_Curve_negate p.1 p.2.1)) (ev_var (i := 0) (x := self_) rfl) (ea_cons (ev_var (i := 1) (x := first_) rfl) ea_nil) (by decide +kernel) (fun _ => ⟨_, rfl⟩)))) : EvT K (W0 E) [some (.im (toD self_)), some (.im (toD first_)), some (.im (toD second_)), none, none] _ _)
      refine blk_seq (blk_if2 L trivial ht_ ?_ ?_)
      · have hr_ := ((ev_noneO (α := (T2 Int Int))) : EvX K (W0 E) [some (.im (toD self_)), some (.im (toD first_)), some (.im (toD second_)), none, none] _ _)
        exact blk_ret L trivial hr_
      · refine blk_nil ?_
        try refine Blk.nx ?_
        have hs_ := ((ev_meth (c := "Curve") (m := "_slope") (ks := ["prime", "a", "b"]) (f := (fun (p : O_Curve × (T2 Int Int) × (T2 Int Int) × Unit) => m_Curve_u_slope p.1 p.2.1 p.2.2.1)) (ev_var (i := 0) (x := self_) rfl) (ea_cons (ev_castG (f := optGet) optGet_ok optGet_x (ev_var (i := 1) (x := first_) rfl)) (ea_cons (ev_castG (f := optGet) optGet_ok optGet_x (ev_var (i := 2) (x := second_) rfl)) ea_nil)) (by decide +kernel) (fun _ => ⟨_, rfl⟩)) : EvX K (W0 E) [some (.im (toD self_)), some (.im (toD first_)), some (.im (toD second_)), none, none] _ _)
        refine blk_seq (blk_set (i := 3) L trivial hs_ fun slope_ => ?_)
        show Blk _ _ _ _ _ [some (.im (toD self_)), some (.im (toD first_)), some (.im (toD second_)), some (.im (toD slope_)), none] _
        try refine Blk.nx ?_
        have hs_ := ((ev_op (opx_I (C := (fun _ j => 0 < j)) (g := fun i j => i % j)) mild_need (ev_op (opx_I0 (g := fun i j => i - j)) mild_ok (ev_op (opx_I0 (g := fun i j => i - j)) mild_ok (ev_op (opx_I (C := CPowX) (g := fun i j => i ^ j.toNat)) mild_need (ev_var (i := 3) (x := slope_) rfl) (ev_int (i := 2))) (ev_ixTC (i := 0) (f := fun x => x.a) (ev_castG (f := optGet) optGet_ok optGet_x (ev_var (i := 1) (x := first_) rfl)) (fun x => ⟨_, rfl, rfl⟩))) (ev_ixTC (i := 0) (f := fun x => x.a) (ev_castG (f := optGet) optGet_ok optGet_x (ev_var (i := 2) (x := second_) rfl)) (fun x => ⟨_, rfl, rfl⟩))) (ev_fld (g := fun (x : O_Curve) => x.f_prime) (c := "Curve") (ks := ["prime", "a", "b"]) (j := 0) (ev_var (i := 0) (x := self_) rfl) T.cl_Curve T.nf_Curve_prime (by decide +kernel) (fun _ => ⟨_, rfl, rfl⟩))) : EvX K (W0 E) [some (.im (toD self_)), some (.im (toD first_)), some (.im (toD second_)), some (.im (toD slope_)), none] _ _)
        refine blk_seq (blk_set (i := 4) L trivial hs_ fun x_ => ?_)
        show Blk _ _ _ _ _ [some (.im (toD self_)), some (.im (toD first_)), some (.im (toD second_)), some (.im (toD slope_)), some (.im (toD x_))] _
        try refine Blk.nx ?_
        have hr_ := ((ev_as (ev_tup (f := (fun y => T2.mk y.1 y.2.1)) (ea_cons (ev_var (i := 4) (x := x_) rfl) (ea_cons (ev_op (opx_I (C := (fun _ j => 0 < j)) (g := fun i j => i % j)) mild_need (ev_op (opx_I0 (g := fun i j => i - j)) mild_ok (ev_op (opx_I (C := CMulX) (g := fun i j => i * j)) mild_need (ev_var (i := 3) (x := slope_) rfl) (ev_op (opx_I0 (g := fun i j => i - j)) mild_ok (ev_ixTC (i := 0) (f := fun x => x.a) (ev_castG (f := optGet) optGet_ok optGet_x (ev_var (i := 1) (x := first_) rfl)) (fun x => ⟨_, rfl, rfl⟩)) (ev_var (i := 4) (x := x_) rfl))) (ev_ixTC (i := 1) (f := fun x => x.b) (ev_castG (f := optGet) optGet_ok optGet_x (ev_var (i := 1) (x := first_) rfl)) (fun x => ⟨_, rfl, rfl⟩))) (ev_fld (g := fun (x : O_Curve) => x.f_prime) (c := "Curve") (ks := ["prime", "a", "b"]) (j := 0) (ev_var (i := 0) (x := self_) rfl) T.cl_Curve T.nf_Curve_prime (by decide +kernel) (fun _ => ⟨_, rfl, rfl⟩))) ea_nil)) (fun _ => rfl) (fun _ => by show 2 ≤ 100000; decide)) some (fun _ => rfl) rfl) : EvX K (W0 E) [some (.im (toD self_)), some (.im (toD first_)), some (.im (toD second_)), some (.im (toD slope_)), some (.im (toD x_))] _ _)
        exact blk_ret L trivial hr_
noncomputable def m_multiply_by_bits_k3 (curve_ : O_Curve) (doubled_ : (Option (T2 Int Int))) (rest_ : Int) (g2 : (Option (T2 Int Int)) × (Option (T2 Int Int)) × Int → Res (Option (T2 Int Int))) : (Option (T2 Int Int)) → Res (Option (T2 Int Int)) := fun result_ =>   (((Res.ok curve_)).bind fun (o235 : O_Curve) => (((Res.ok doubled_)).bind fun a237 => (((Res.ok doubled_)).bind fun a239 => (Res.ok ()).bind fun a240 => Res.ok (a239, a240)).bind fun a238 => Res.ok (a237, a238)).bind fun p236 => m_Curve_add o235 p236.1 p236.2.1).bind fun (doubled_ : (Option (T2 Int Int))) =>   (((Res.ok rest_)).bind fun (t241 : Int) => ((Res.ok (1 : Int))).bind fun (t242 : Int) => Res.ok (t241 / 2 ^ t242.toNat)).bind fun (rest_ : Int) =>   g2 (result_, doubled_, rest_)
noncomputable def m_multiply_by_bits_w2 (curve_ : O_Curve) (k2 : (Option (T2 Int Int)) × (Option (T2 Int Int)) × Int → Res (Option (T2 Int Int))) : Nat → (Option (T2 Int Int)) × (Option (T2 Int Int)) × Int → Res (Option (T2 Int Int))
  | 0, _ => Res.stuck
  | n2 + 1, (result_, doubled_, rest_) => (((Res.ok rest_)).bind fun (t229 : Int) => ((Res.ok (0 : Int))).bind fun (t230 : Int) => Res.ok (decide (t230 < t229))).bind fun b => cond b   (((((Res.ok rest_)).bind fun (t231 : Int) => ((Res.ok (1 : Int))).bind fun (t232 : Int) => Res.ok (Builtin.bitAnd t231 t232)).bind fun (t233 : Int) => ((Res.ok (1 : Int))).bind fun (t234 : Int) => Res.ok (decide (t233 = t234))).bind fun b => cond b   ((((Res.ok curve_)).bind fun (o243 : O_Curve) => (((Res.ok result_)).bind fun a245 => (((Res.ok doubled_)).bind fun a247 => (Res.ok ()).bind fun a248 => Res.ok (a247, a248)).bind fun a246 => Res.ok (a245, a246)).bind fun p244 => m_Curve_add o243 p244.1 p244.2.1).bind fun (result_ : (Option (T2 Int Int))) =>   (m_multiply_by_bits_k3 curve_ doubled_ rest_ (m_multiply_by_bits_w2 curve_ k2 n2)) result_)   ((m_multiply_by_bits_k3 curve_ doubled_ rest_ (m_multiply_by_bits_w2 curve_ k2 n2)) result_))   (k2 (result_, doubled_, rest_))
noncomputable def m_multiply_by_bits_k4 : (Option (T2 Int Int)) × (Option (T2 Int Int)) × Int → Res (Option (T2 Int Int)) := fun (result_, doubled_, rest_) =>   (Res.ok result_)
noncomputable def m_multiply_by_bits_b (rec_ : O_Curve → (Option (T2 Int Int)) → Int → (Option (T2 Int Int)) → Res (Option (T2 Int Int))) (curve_ : O_Curve) (neutral_ : (Option (T2 Int Int))) (factor_ : Int) (point_ : (Option (T2 Int Int))) : Res (Option (T2 Int Int)) :=
  (((Res.ok factor_)).bind fun (t213 : Int) => ((Res.ok (0 : Int))).bind fun (t214 : Int) => Res.ok (decide (t213 < t214))).bind fun b => cond b   ((((Res.ok curve_)).bind fun a221 => (((Res.ok neutral_)).bind fun a223 => ((((Res.ok factor_)).bind fun (t215 : Int) => Res.ok (-t215)).bind fun a225 => ((((Res.ok curve_)).bind fun (o216 : O_Curve) => (((Res.ok point_)).bind fun a218 => (Res.ok ()).bind fun a219 => Res.ok (a218, a219)).bind fun p217 => m_Curve_negate o216 p217.1).bind fun a227 => (Res.ok ()).bind fun a228 => Res.ok (a227, a228)).bind fun a226 => Res.ok (a225, a226)).bind fun a224 => Res.ok (a223, a224)).bind fun a222 => Res.ok (a221, a222)).bind fun p220 => rec_ p220.1 p220.2.1 p220.2.2.1 p220.2.2.2.1)   (((Res.ok neutral_)).bind fun (result_ : (Option (T2 Int Int))) =>   ((Res.ok point_)).bind fun (doubled_ : (Option (T2 Int Int))) =>   ((Res.ok factor_)).bind fun (rest_ : Int) =>   m_multiply_by_bits_w2 curve_ (m_multiply_by_bits_k4) (rest_.toNat + 1) (result_, doubled_, rest_))
noncomputable def m_multiply_by_bits : Nat → O_Curve → (Option (T2 Int Int)) → Int → (Option (T2 Int Int)) → Res (Option (T2 Int Int))
  | 0, _, _, _, _ => Res.stuck
  | n_ + 1, curve_, neutral_, factor_, point_ => m_multiply_by_bits_b (m_multiply_by_bits n_) curve_ neutral_ factor_ point_
theorem ok_multiply_by_bits {P : Program} {w : World} {K : PySem.W.Frag} {mg : Str → Option Value} {base : Heap} (T : Facts K mg) {fd : FuncData} (F : FnP K "multiply_by_bits" "multiply_by_bits" s_multiply_by_bits (He.ga K "multiply_by_bits") fd) : ∀ n_ : Nat,
    FnOk P w K mg base (L2.CX P w) (4 + n_) (He.ga K "multiply_by_bits") fd ["curve", "neutral", "factor", "point"] (spM K (fun (p : O_Curve × (Option (T2 Int Int)) × Int × (Option (T2 Int Int)) × Unit) => m_multiply_by_bits n_ p.1 p.2.1 p.2.2.1 p.2.2.2.1)) := by
  obtain ⟨fd_Curve_add, F_Curve_add⟩ := T.d_Curve_add
  have G_Curve_add := ok_Curve_add (P := P) (w := w) (base := base) T F_Curve_add
  have b_Curve_add : Binds K fd_Curve_add ["self", "first", "second"] [] := F_Curve_add.bindsN fun _ _ _ _ _ _ us hl => match us, hl with | [_, _, _], _ => rfl
  obtain ⟨fd_Curve_negate, F_Curve_negate⟩ := T.d_Curve_negate
  have G_Curve_negate := ok_Curve_negate (P := P) (w := w) (base := base) T F_Curve_negate
  have b_Curve_negate : Binds K fd_Curve_negate ["self", "point"] [] := F_Curve_negate.bindsN fun _ _ _ _ _ _ us hl => match us, hl with | [_, _], _ => rfl
  have b_multiply_by_bits : Binds K fd ["curve", "neutral", "factor", "point"] [] := F.bindsN fun _ _ _ _ _ _ us hl => match us, hl with | [_, _, _, _], _ => rfl
  have F_multiply_by_bits := F
  intro n_
  induction n_ with
  | zero => exact fnok_stuck _ (fun _ => rfl)
  | succ n_ G_multiply_by_bits =>
  refine fn_ok (k := 4 + n_) F sc_multiply_by_bits (fun y => rfl) (fun cdv A outer s H E hr => ?_)
  refine ⟨_, (pss_cons (ps_if (pt_cmpR op_lt (pv 2) pe_int (nomark _)) (pss_one (ps_ret (pe_callS G_multiply_by_bits (hr.mono (by omega)) rfl T.g_multiply_by_bits F_multiply_by_bits.kp b_multiply_by_bits (fun σ => passAt (takes_of rfl rfl rfl rfl) σ) (pa_cons (pv 0) (pa_cons (pv 1) (pa_cons (pe_un un_neg (pv 2)) (pa_cons (pe_methQ (pv 0) T.cl_Curve T.mt_Curve_negate G_Curve_negate (hr.mono (by omega)) b_Curve_negate (fun σ => passAt (takes_of rfl rfl rfl rfl) σ) (pa_cons (pv 3) pa_nil)) pa_nil))))))) pss_nil) (pss_cons (ps_set (i := 4) sc_multiply_by_bits.nd rfl (Or.inl rfl) (pv 1)) (pss_cons (ps_set (i := 5) sc_multiply_by_bits.nd rfl (Or.inl rfl) (pv 3)) (pss_cons (ps_set (i := 6) sc_multiply_by_bits.nd rfl (Or.inl rfl) (pv 2)) (pss_cons (ps_while (passes_of rfl) (pt_cmpR op_gt (pv 6) pe_int (nomark _)) (pss_cons (ps_if (pt_cmpR op_eq (pe_op op_and (pv 6) pe_int) pe_int (nomark _)) (pss_one (ps_set (i := 4) sc_multiply_by_bits.nd rfl (Or.inl rfl) (pe_methQ (pv 0) T.cl_Curve T.mt_Curve_add G_Curve_add (hr.mono (by omega)) b_Curve_add (fun σ => passAt (takes_of rfl rfl rfl rfl) σ) (pa_cons (pv 4) (pa_cons (pv 5) pa_nil))))) pss_nil) (pss_cons (ps_set (i := 5) sc_multiply_by_bits.nd rfl (Or.inl rfl) (pe_methQ (pv 0) T.cl_Curve T.mt_Curve_add G_Curve_add (hr.mono (by omega)) b_Curve_add (fun σ => passAt (takes_of rfl rfl rfl rfl) σ) (pa_cons (pv 5) (pa_cons (pv 5) pa_nil)))) (pss_one (ps_set (i := 6) sc_multiply_by_bits.nd rfl (Or.inl rfl) (pe_op op_shr (pv 6) pe_int)))))) (pss_one (ps_ret (pv 4)))))))), ?_⟩
  rintro ⟨curve_, neutral_, factor_, point_, ⟨⟩⟩ F0 H0 Q KP L
  show Blk K F0 H0 KP _ [some (.im (toD curve_)), some (.im (toD neutral_)), some (.im (toD factor_)), some (.im (toD point_)), none, none, none] (m_multiply_by_bits_b (m_multiply_by_bits n_) curve_ neutral_ factor_ point_)
  unfold m_multiply_by_bits_b
  have ht_ := ((et_test (ev_op (opx_B0 (g := fun i j => decide (i < j))) mild_ok (ev_var (i := 2) (x := factor_) rfl) (ev_int (i := 0)))) : EvT K (W0 E) [some (.im (toD curve_)), some (.im (toD neutral_)), some (.im (toD factor_)), some (.im (toD point_)), none, none, none] _ _)
  refine blk_seq (blk_if2 L trivial ht_ ?_ ?_)
  · have hr_ := ((ev_call (f := (fun (p : O_Curve × (Option (T2 Int Int)) × Int × (Option (T2 Int Int)) × Unit) => (m_multiply_by_bits n_) p.1 p.2.1 p.2.2.1 p.2.2.2.1)) (ea_cons (ev_var (i := 0) (x := curve_) rfl) (ea_cons (ev_var (i := 1) (x := neutral_) rfl) (ea_cons (ev_un (g := fun i => -i) (ev_var (i := 2) (x := factor_) rfl)) (ea_cons (ev_meth (c := "Curve") (m := "negate") (ks := ["prime", "a", "b"]) (f := (fun (p : O_Curve × (Option (T2 Int Int)) × Unit) => m_Curve_negate p.1 p.2.1)) (ev_var (i := 0) (x := curve_) rfl) (ea_cons (ev_var (i := 3) (x := point_) rfl) ea_nil) (by decide +kernel) (fun _ => ⟨_, rfl⟩)) ea_nil))))) : EvX K (W0 E) [some (.im (toD curve_)), some (.im (toD neutral_)), some (.im (toD factor_)), some (.im (toD point_)), none, none, none] _ _)
    exact blk_ret L trivial hr_
  · refine blk_nil ?_
    try refine Blk.nx ?_
    have hs_ := ((ev_var (i := 1) (x := neutral_) rfl) : EvX K (W0 E) [some (.im (toD curve_)), some (.im (toD neutral_)), some (.im (toD factor_)), some (.im (toD point_)), none, none, none] _ _)
    refine blk_seq (blk_set (i := 4) L trivial hs_ fun result_ => ?_)
    show Blk _ _ _ _ _ [some (.im (toD curve_)), some (.im (toD neutral_)), some (.im (toD factor_)), some (.im (toD point_)), some (.im (toD result_)), none, none] _
    try refine Blk.nx ?_
    have hs_ := ((ev_var (i := 3) (x := point_) rfl) : EvX K (W0 E) [some (.im (toD curve_)), some (.im (toD neutral_)), some (.im (toD factor_)), some (.im (toD point_)), some (.im (toD result_)), none, none] _ _)
    refine blk_seq (blk_set (i := 5) L trivial hs_ fun doubled_ => ?_)
    show Blk _ _ _ _ _ [some (.im (toD curve_)), some (.im (toD neutral_)), some (.im (toD factor_)), some (.im (toD point_)), some (.im (toD result_)), some (.im (toD doubled_)), none] _
    try refine Blk.nx ?_
    have hs_ := ((ev_var (i := 2) (x := factor_) rfl) : EvX K (W0 E) [some (.im (toD curve_)), some (.im (toD neutral_)), some (.im (toD factor_)), some (.im (toD point_)), some (.im (toD result_)), some (.im (toD doubled_)), none] _ _)
    refine blk_seq (blk_set (i := 6) L trivial hs_ fun rest_ => ?_)
    show Blk _ _ _ _ _ [some (.im (toD curve_)), some (.im (toD neutral_)), some (.im (toD factor_)), some (.im (toD point_)), some (.im (toD result_)), some (.im (toD doubled_)), some (.im (toD rest_))] _
    try refine Blk.nx ?_
    refine blk_seq (blk_while (S := (Option (T2 Int Int)) × (Option (T2 Int Int)) × Int) (m_multiply_by_bits_w2 curve_ (m_multiply_by_bits_k4)) (fun (s : (Option (T2 Int Int)) × (Option (T2 Int Int)) × Int) => match s with | (result_, doubled_, rest_) => ((Res.ok rest_)).bind fun (t229 : Int) => ((Res.ok (0 : Int))).bind fun (t230 : Int) => Res.ok (decide (t230 < t229))) (fun n s => match s with | (result_, doubled_, rest_) => ((((Res.ok rest_)).bind fun (t231 : Int) => ((Res.ok (1 : Int))).bind fun (t232 : Int) => Res.ok (Builtin.bitAnd t231 t232)).bind fun (t233 : Int) => ((Res.ok (1 : Int))).bind fun (t234 : Int) => Res.ok (decide (t233 = t234))).bind fun b => cond b   ((((Res.ok curve_)).bind fun (o243 : O_Curve) => (((Res.ok result_)).bind fun a245 => (((Res.ok doubled_)).bind fun a247 => (Res.ok ()).bind fun a248 => Res.ok (a247, a248)).bind fun a246 => Res.ok (a245, a246)).bind fun p244 => m_Curve_add o243 p244.1 p244.2.1).bind fun (result_ : (Option (T2 Int Int))) =>   (m_multiply_by_bits_k3 curve_ doubled_ rest_ (m_multiply_by_bits_w2 curve_ (m_multiply_by_bits_k4) n)) result_)   ((m_multiply_by_bits_k3 curve_ doubled_ rest_ (m_multiply_by_bits_w2 curve_ (m_multiply_by_bits_k4) n)) result_)) (m_multiply_by_bits_k4) (fun (result_, doubled_, rest_) => [some (.im (toD curve_)), some (.im (toD neutral_)), some (.im (toD factor_)), some (.im (toD point_)), some (.im (toD result_)), some (.im (toD doubled_)), some (.im (toD rest_))]) (result_, doubled_, rest_) (rest_.toNat + 1) L ?_ (.same (.same (.same (.same (.same (.same (.same .nil))))))) ?_ (fun ⟨_, _, _⟩ => rfl) (fun _ ⟨_, _, _⟩ => rfl) ?_ ?_)
    · rintro ⟨result_, doubled_, rest_⟩
      exact trivial
    · rintro ⟨result_, doubled_, rest_⟩
      exact ((et_test (ev_op (opx_B0 (g := fun i j => decide (j < i))) mild_ok (ev_var (i := 6) (x := rest_) rfl) (ev_int (i := 0)))) : EvT K (W0 E) [some (.im (toD curve_)), some (.im (toD neutral_)), some (.im (toD factor_)), some (.im (toD point_)), some (.im (toD result_)), some (.im (toD doubled_)), some (.im (toD rest_))] _ _)
    · intro n2 s_ N_ hN2
      obtain ⟨result_, doubled_, rest_⟩ := s_
      show Blk _ _ _ _ _ [some (.im (toD curve_)), some (.im (toD neutral_)), some (.im (toD factor_)), some (.im (toD point_)), some (.im (toD result_)), some (.im (toD doubled_)), some (.im (toD rest_))] _
      have ht_ := ((et_test (ev_op opx_eqI mild_ok (ev_op (opx_I0 (g := Builtin.bitAnd)) mild_ok (ev_var (i := 6) (x := rest_) rfl) (ev_int (i := 1))) (ev_int (i := 1)))) : EvT K (W0 E) [some (.im (toD curve_)), some (.im (toD neutral_)), some (.im (toD factor_)), some (.im (toD point_)), some (.im (toD result_)), some (.im (toD doubled_)), some (.im (toD rest_))] _ _)
      refine blk_seq (blk_ifj (S := (Option (T2 Int Int))) (fun result_ => [some (.im (toD curve_)), some (.im (toD neutral_)), some (.im (toD factor_)), some (.im (toD point_)), some (.im (toD result_)), some (.im (toD doubled_)), some (.im (toD rest_))]) (m_multiply_by_bits_k3 curve_ doubled_ rest_ (m_multiply_by_bits_w2 curve_ (m_multiply_by_bits_k4) n2)) L trivial ht_ ?_ ?_ ?_)
      · intro result_
        show Blk _ _ _ _ _ [some (.im (toD curve_)), some (.im (toD neutral_)), some (.im (toD factor_)), some (.im (toD point_)), some (.im (toD result_)), some (.im (toD doubled_)), some (.im (toD rest_))] ((m_multiply_by_bits_k3 curve_ doubled_ rest_ (m_multiply_by_bits_w2 curve_ (m_multiply_by_bits_k4) n2)) result_)
        unfold m_multiply_by_bits_k3
        try refine Blk.nx ?_
        have hs_ := ((ev_meth (c := "Curve") (m := "add") (ks := ["prime", "a", "b"]) (f := (fun (p : O_Curve × (Option (T2 Int Int)) × (Option (T2 Int Int)) × Unit) => m_Curve_add p.1 p.2.1 p.2.2.1)) (ev_var (i := 0) (x := curve_) rfl) (ea_cons (ev_var (i := 5) (x := doubled_) rfl) (ea_cons (ev_var (i := 5) (x := doubled_) rfl) ea_nil)) (by decide +kernel) (fun _ => ⟨_, rfl⟩)) : EvX K (W0 E) [some (.im (toD curve_)), some (.im (toD neutral_)), some (.im (toD factor_)), some (.im (toD point_)), some (.im (toD result_)), some (.im (toD doubled_)), some (.im (toD rest_))] _ _)
        refine blk_seq (blk_set (i := 5) L trivial hs_ fun doubled_ => ?_)
        show Blk _ _ _ _ _ [some (.im (toD curve_)), some (.im (toD neutral_)), some (.im (toD factor_)), some (.im (toD point_)), some (.im (toD result_)), some (.im (toD doubled_)), some (.im (toD rest_))] _
        try refine Blk.nx ?_
        have hs_ := ((ev_opI (C := (fun _ j => 0 ≤ j)) (g := fun i j => i / 2 ^ j.toNat) (fun x y _ h => by cases h; (show (0 : Int) ≤ _; decide)) (ev_var (i := 6) (x := rest_) rfl) (ev_int (i := 1))) : EvX K (W0 E) [some (.im (toD curve_)), some (.im (toD neutral_)), some (.im (toD factor_)), some (.im (toD point_)), some (.im (toD result_)), some (.im (toD doubled_)), some (.im (toD rest_))] _ _)
        refine blk_set (i := 6) L trivial hs_ fun rest_ => ?_
        show Blk _ _ _ _ _ [some (.im (toD curve_)), some (.im (toD neutral_)), some (.im (toD factor_)), some (.im (toD point_)), some (.im (toD result_)), some (.im (toD doubled_)), some (.im (toD rest_))] _
        try refine Blk.nx ?_
        exact (hN2 (result_, doubled_, rest_)).weak (.same (.same (.same (.same (.same (.same (.same .nil)))))))
      · intro hk3
        have hs_ := ((ev_meth (c := "Curve") (m := "add") (ks := ["prime", "a", "b"]) (f := (fun (p : O_Curve × (Option (T2 Int Int)) × (Option (T2 Int Int)) × Unit) => m_Curve_add p.1 p.2.1 p.2.2.1)) (ev_var (i := 0) (x := curve_) rfl) (ea_cons (ev_var (i := 4) (x := result_) rfl) (ea_cons (ev_var (i := 5) (x := doubled_) rfl) ea_nil)) (by decide +kernel) (fun _ => ⟨_, rfl⟩)) : EvX K (W0 E) [some (.im (toD curve_)), some (.im (toD neutral_)), some (.im (toD factor_)), some (.im (toD point_)), some (.im (toD result_)), some (.im (toD doubled_)), some (.im (toD rest_))] _ _)
        refine blk_set (i := 4) L trivial hs_ fun result_ => ?_
        show Blk _ _ _ _ _ [some (.im (toD curve_)), some (.im (toD neutral_)), some (.im (toD factor_)), some (.im (toD point_)), some (.im (toD result_)), some (.im (toD doubled_)), some (.im (toD rest_))] _
        try refine Blk.nx ?_
        exact (hk3 result_).weak (.same (.same (.same (.same (.same (.same (.same .nil)))))))
      · intro hk3
        refine blk_nil ?_
        try refine Blk.nx ?_
        exact (hk3 result_).weak (.same (.same (.same (.same (.same (.same (.same .nil)))))))
    · rintro ⟨result_, doubled_, rest_⟩
      show Blk _ _ _ _ _ [some (.im (toD curve_)), some (.im (toD neutral_)), some (.im (toD factor_)), some (.im (toD point_)), some (.im (toD result_)), some (.im (toD doubled_)), some (.im (toD rest_))] ((m_multiply_by_bits_k4) (result_, doubled_, rest_))
      unfold m_multiply_by_bits_k4
      try refine Blk.nx ?_
      have hr_ := ((ev_var (i := 4) (x := result_) rfl) : EvX K (W0 E) [some (.im (toD curve_)), some (.im (toD neutral_)), some (.im (toD factor_)), some (.im (toD point_)), some (.im (toD result_)), some (.im (toD doubled_)), some (.im (toD rest_))] _ _)
      exact blk_ret L trivial hr_
noncomputable def m_is_whole (value_ : D) : Res Bool :=
  (((Res.ok value_)).bind fun (t249 : D) => Res.need ((toD t249).plain = true) (Res.ok (isI "int" (toD t249)))).bind fun b252 => cond b252 ((((Res.ok value_)).bind fun (t250 : D) => Res.need ((toD t250).plain = true) (Res.ok (isI "bool" (toD t250)))).bind fun (t251 : Bool) => Res.ok (!t251)) (Res.ok false)
theorem ok_is_whole {P : Program} {w : World} {K : PySem.W.Frag} {mg : Str → Option Value} {base : Heap} (T : Facts K mg) {fd : FuncData} (F : FnP K "is_whole" "is_whole" s_is_whole (He.ga K "is_whole") fd) :
    FnOk P w K mg base (L2.CX P w) 1 (He.ga K "is_whole") fd ["value"] (spM K (fun (p : D × Unit) => m_is_whole p.1)) := by
  refine fn_ok F sc_is_whole (fun y => rfl) (fun cdv A outer s H E hr => ?_)
  refine ⟨_, (pss_one (ps_ret (pe_and (pe_callB call_isi (by rfl) T.n_isinstance (by decide +kernel) (pa_cons (pv 0) (pa_cons (pe_bltn (v := .ty "int") (by rfl) T.n_int (by decide +kernel) rfl) pa_nil))) (pe_one (pe_not (pe_callB call_isi (by rfl) T.n_isinstance (by decide +kernel) (pa_cons (pv 0) (pa_cons (pe_bltn (v := .ty "bool") (by rfl) T.n_bool (by decide +kernel) rfl) pa_nil)))))))), ?_⟩
  rintro ⟨value_, ⟨⟩⟩ F0 H0 Q KP L
  show Blk K F0 H0 KP _ [some (.im (toD value_))] (m_is_whole value_)
  unfold m_is_whole
  have hr_ := ((ev_andV (ev_isi isi_int (ev_var (i := 0) (x := value_) rfl)) (ev_notV (ev_isi isi_bool (ev_var (i := 0) (x := value_) rfl)))) : EvX K (W0 E) [some (.im (toD value_))] _ _)
  exact blk_ret L trivial hr_
noncomputable def m_is_residue (value_ : D) (modulus_ : Int) : Res Bool :=
  ((((Res.ok value_)).bind fun a254 => (Res.ok ()).bind fun a255 => Res.ok (a254, a255)).bind fun p253 => m_is_whole p253.1).bind fun b260 => cond b260 (((Res.ok (0 : Int))).bind fun (t256 : Int) => (((Res.ok value_)).bind D.asInt).bind fun (t257 : Int) => (Res.ok (decide (t256 ≤ t257))).bind fun b259 => cond b259 (((Res.ok modulus_)).bind fun (t258 : Int) => Res.ok (decide (t257 < t258))) (Res.ok false)) (Res.ok false)
theorem ok_is_residue {P : Program} {w : World} {K : PySem.W.Frag} {mg : Str → Option Value} {base : Heap} (T : Facts K mg) {fd : FuncData} (F : FnP K "is_residue" "is_residue" s_is_residue (He.ga K "is_residue") fd) :
    FnOk P w K mg base (L2.CX P w) 2 (He.ga K "is_residue") fd ["value", "modulus"] (spM K (fun (p : D × Int × Unit) => m_is_residue p.1 p.2.1)) := by
  obtain ⟨fd_is_whole, F_is_whole⟩ := T.d_is_whole
  have G_is_whole := ok_is_whole (P := P) (w := w) (base := base) T F_is_whole
  have b_is_whole : Binds K fd_is_whole ["value"] [] := F_is_whole.bindsN fun _ _ _ _ _ _ us hl => match us, hl with | [_], _ => rfl
  refine fn_ok F sc_is_residue (fun y => rfl) (fun cdv A outer s H E hr => ?_)
  refine ⟨_, (pss_one (ps_ret (pe_and (pe_callS G_is_whole (hr.mono (by decide)) rfl T.g_is_whole F_is_whole.kp b_is_whole (fun σ => passAt (takes_of rfl rfl rfl rfl) σ) (pa_cons (pv 0) pa_nil)) (pe_one (pe_chain op_le op_lt pe_int (pv 0) (pv 1)))))), ?_⟩
  rintro ⟨value_, modulus_, ⟨⟩⟩ F0 H0 Q KP L
  show Blk K F0 H0 KP _ [some (.im (toD value_)), some (.im (toD modulus_))] (m_is_residue value_ modulus_)
  unfold m_is_residue
  have hr_ := ((ev_andV (ev_call (f := (fun (p : D × Unit) => m_is_whole p.1)) (ea_cons (ev_var (i := 0) (x := value_) rfl) ea_nil)) (ev_chain (opx_B0 (g := fun i j => decide (i ≤ j))) mild_ok (opx_B0 (g := fun i j => decide (i < j))) mild_ok (ev_int (i := 0)) (ev_cast (f := D.asInt) asInt_ok asInt_x (ev_var (i := 0) (x := value_) rfl)) (ev_var (i := 1) (x := modulus_) rfl))) : EvX K (W0 E) [some (.im (toD value_)), some (.im (toD modulus_))] _ _)
  exact blk_ret L trivial hr_
noncomputable def m_is_residue_pair (value_ : D) (modulus_ : Int) : Res Bool :=
  (((Res.ok value_)).bind fun (t261 : D) => Res.need ((toD t261).plain = true) (Res.ok (isI "tuple" (toD t261)))).bind fun b277 => cond b277 (((((Res.ok value_)).bind fun (t262 : D) => D.lenR t262).bind fun (t263 : Int) => ((Res.ok (2 : Int))).bind fun (t264 : Int) => Res.ok (decide (t263 = t264))).bind fun b276 => cond b276 (((((((Res.ok value_)).bind D.asTu).bind fun (t265 : (Tu D)) => Res.ok (t265).xs).bind fun (xs272 : List D) => Res.need (xs272.length ≤ 16777216) (compL (fun (x266 : D) => Res.ok true) (fun (x266 : D) => (((Res.ok x266)).bind fun a268 => (((Res.ok modulus_)).bind fun a270 => (Res.ok ()).bind fun a271 => Res.ok (a270, a271)).bind fun a269 => Res.ok (a268, a269)).bind fun p267 => (m_is_residue p267.1 p267.2.1).noexc) xs272)).bind fun a274 => (Res.ok ()).bind fun a275 => Res.ok (a274, a275)).bind fun p273 => Res.ok ((p273.1).all id)) (Res.ok false)) (Res.ok false)
theorem ok_is_residue_pair {P : Program} {w : World} {K : PySem.W.Frag} {mg : Str → Option Value} {base : Heap} (T : Facts K mg) {fd : FuncData} (F : FnP K "is_residue_pair" "is_residue_pair" s_is_residue_pair (He.ga K "is_residue_pair") fd) :
    FnOk P w K mg base (L2.CX P w) 3 (He.ga K "is_residue_pair") fd ["value", "modulus"] (spM K (fun (p : D × Int × Unit) => m_is_residue_pair p.1 p.2.1)) := by
  obtain ⟨fd_is_residue, F_is_residue⟩ := T.d_is_residue
  have G_is_residue := ok_is_residue (P := P) (w := w) (base := base) T F_is_residue
  have b_is_residue : Binds K fd_is_residue ["value", "modulus"] [] := F_is_residue.bindsN fun _ _ _ _ _ _ us hl => match us, hl with | [_, _], _ => rfl
  refine fn_ok F sc_is_residue_pair (fun y => rfl) (fun cdv A outer s H E hr => ?_)
  refine ⟨_, (pss_one (ps_ret (pe_and (pe_callB call_isi (by rfl) T.n_isinstance (by decide +kernel) (pa_cons (pv 0) (pa_cons (pe_bltn (v := .ty "tuple") (by rfl) T.n_tuple (by decide +kernel) rfl) pa_nil))) (pe_and (pe_cmpR op_eq (pe_callB (cr_len rfl) (by rfl) T.n_len (by decide +kernel) (pa_cons (pv 0) pa_nil)) pe_int (nomark _)) (pe_one (pe_callB (cr_all rfl) (by rfl) T.n_all (by decide +kernel) (pa_cons (pe_lc (own := [("item", 2)]) rfl sc_is_residue_pair.nd (pi_tup (pv 0)) (blkOk_by (own := [("item", 2)]) (N := ["value", "modulus", "item"]) (sc := defScope s_is_residue_pair) (by decide +kernel)) (fun _ _ _ _ _ => (pg_name (i := 2) sc_is_residue_pair.nd rfl (Or.inl rfl))) (fun _ _ _ _ _ => pts_nil) (fun _ _ _ _ _ => (pe_call G_is_residue (hr.mono (by decide)) rfl T.g_is_residue F_is_residue.kp b_is_residue .nil passL (pa_cons (pv 2) (pa_cons (pv 1) pa_nil))))) pa_nil))))))), ?_⟩
  rintro ⟨value_, modulus_, ⟨⟩⟩ F0 H0 Q KP L
  show Blk K F0 H0 KP _ [some (.im (toD value_)), some (.im (toD modulus_)), none] (m_is_residue_pair value_ modulus_)
  unfold m_is_residue_pair
  have hr_ := ((ev_andV (ev_isi isi_tuple (ev_var (i := 0) (x := value_) rfl)) (ev_andV (ev_op opx_eqI mild_ok (ev_lenD (ev_var (i := 0) (x := value_) rfl)) (ev_int (i := 2))) (ev_cb cx_all (fun _ _ h => nomatch h) (ea_cons (ev_ofN (ev_comp (tst := fun (x266 : D) => Res.ok true) (el := fun (x266 : D) => (((Res.ok x266)).bind fun a268 => (((Res.ok modulus_)).bind fun a270 => (Res.ok ()).bind fun a271 => Res.ok (a270, a271)).bind fun a269 => Res.ok (a268, a269)).bind fun p267 => (m_is_residue p267.1 p267.2.1).noexc) (ws := [2]) (ei_tup (ev_cast (f := D.asTu) asTu_ok asTu_x (ev_var (i := 0) (x := value_) rfl))) (fun _ => gx_name) (fun x266 => et_yes) (fun x266 => ((ev_call0 (f := (fun (p : D × Int × Unit) => m_is_residue p.1 p.2.1)) (ea_cons (ev_var (i := 2) (x := x266) rfl) (ea_cons (ev_var (i := 1) (x := modulus_) rfl) ea_nil))) : EvX K WT [some (.im (toD value_)), some (.im (toD modulus_)), some (.im (toD x266))] _ _)))) ea_nil)))) : EvX K (W0 E) [some (.im (toD value_)), some (.im (toD modulus_)), none] _ _)
  exact blk_ret L trivial hr_
noncomputable def m_power_k2 (modulus_ : Int) (square_ : Int) (rest_ : Int) (g1 : Int × Int × Int → Res Int) : Int → Res Int := fun result_ =>   ((((Res.ok square_)).bind fun (t288 : Int) => ((Res.ok square_)).bind fun (t289 : Int) => Res.need (CMulX t288 t289) (Res.ok (t288 * t289))).bind fun (t290 : Int) => ((Res.ok modulus_)).bind fun (t291 : Int) => Res.need (0 < t291) (Res.ok (t290 % t291))).bind fun (square_ : Int) =>   (((Res.ok rest_)).bind fun (t292 : Int) => ((Res.ok (1 : Int))).bind fun (t293 : Int) => Res.ok (t292 / 2 ^ t293.toNat)).bind fun (rest_ : Int) =>   g1 (result_, square_, rest_)
noncomputable def m_power_w1 (modulus_ : Int) (k1 : Int × Int × Int → Res Int) : Nat → Int × Int × Int → Res Int
  | 0, _ => Res.stuck
  | n1 + 1, (result_, square_, rest_) => (((Res.ok rest_)).bind fun (t282 : Int) => ((Res.ok (0 : Int))).bind fun (t283 : Int) => Res.ok (decide (t283 < t282))).bind fun b => cond b   (((((Res.ok rest_)).bind fun (t284 : Int) => ((Res.ok (1 : Int))).bind fun (t285 : Int) => Res.ok (Builtin.bitAnd t284 t285)).bind fun (t286 : Int) => ((Res.ok (1 : Int))).bind fun (t287 : Int) => Res.ok (decide (t286 = t287))).bind fun b => cond b   (((((Res.ok result_)).bind fun (t294 : Int) => ((Res.ok square_)).bind fun (t295 : Int) => Res.need (CMulX t294 t295) (Res.ok (t294 * t295))).bind fun (t296 : Int) => ((Res.ok modulus_)).bind fun (t297 : Int) => Res.need (0 < t297) (Res.ok (t296 % t297))).bind fun (result_ : Int) =>   (m_power_k2 modulus_ square_ rest_ (m_power_w1 modulus_ k1 n1)) result_)   ((m_power_k2 modulus_ square_ rest_ (m_power_w1 modulus_ k1 n1)) result_))   (k1 (result_, square_, rest_))
noncomputable def m_power_k3 : Int × Int × Int → Res Int := fun (result_, square_, rest_) =>   (Res.ok result_)
noncomputable def m_power (a_ : Int) (exponent_ : Int) (modulus_ : Int) : Res Int :=
  (((Res.ok (1 : Int))).bind fun (t278 : Int) => ((Res.ok modulus_)).bind fun (t279 : Int) => Res.need (0 < t279) (Res.ok (t278 % t279))).bind fun (result_ : Int) =>   (((Res.ok a_)).bind fun (t280 : Int) => ((Res.ok modulus_)).bind fun (t281 : Int) => Res.need (0 < t281) (Res.ok (t280 % t281))).bind fun (square_ : Int) =>   ((Res.ok exponent_)).bind fun (rest_ : Int) =>   m_power_w1 modulus_ (m_power_k3) (rest_.toNat + 1) (result_, square_, rest_)
theorem ok_power {P : Program} {w : World} {K : PySem.W.Frag} {mg : Str → Option Value} {base : Heap} (T : Facts K mg) {fd : FuncData} (F : FnP K "power" "power" s_power (He.ga K "power") fd) :
    FnOk P w K mg base (L2.CX P w) 1 (He.ga K "power") fd ["a", "exponent", "modulus"] (spM K (fun (p : Int × Int × Int × Unit) => m_power p.1 p.2.1 p.2.2.1)) := by
  refine fn_ok F sc_power (fun y => rfl) (fun cdv A outer s H E hr => ?_)
  refine ⟨_, (pss_cons (ps_set (i := 3) sc_power.nd rfl (Or.inl rfl) (pe_op op_mod pe_int (pv 2))) (pss_cons (ps_set (i := 4) sc_power.nd rfl (Or.inl rfl) (pe_op op_mod (pv 0) (pv 2))) (pss_cons (ps_set (i := 5) sc_power.nd rfl (Or.inl rfl) (pv 1)) (pss_cons (ps_while (passes_of rfl) (pt_cmpR op_gt (pv 5) pe_int (nomark _)) (pss_cons (ps_if (pt_cmpR op_eq (pe_op op_and (pv 5) pe_int) pe_int (nomark _)) (pss_one (ps_set (i := 3) sc_power.nd rfl (Or.inl rfl) (pe_op op_mod (pe_op op_mulX (pv 3) (pv 4)) (pv 2)))) pss_nil) (pss_cons (ps_set (i := 4) sc_power.nd rfl (Or.inl rfl) (pe_op op_mod (pe_op op_mulX (pv 4) (pv 4)) (pv 2))) (pss_one (ps_set (i := 5) sc_power.nd rfl (Or.inl rfl) (pe_op op_shr (pv 5) pe_int)))))) (pss_one (ps_ret (pv 3))))))), ?_⟩
  rintro ⟨a_, exponent_, modulus_, ⟨⟩⟩ F0 H0 Q KP L
  show Blk K F0 H0 KP _ [some (.im (toD a_)), some (.im (toD exponent_)), some (.im (toD modulus_)), none, none, none] (m_power a_ exponent_ modulus_)
  unfold m_power
  have hs_ := ((ev_op (opx_I (C := (fun _ j => 0 < j)) (g := fun i j => i % j)) mild_need (ev_int (i := 1)) (ev_var (i := 2) (x := modulus_) rfl)) : EvX K (W0 E) [some (.im (toD a_)), some (.im (toD exponent_)), some (.im (toD modulus_)), none, none, none] _ _)
  refine blk_seq (blk_set (i := 3) L trivial hs_ fun result_ => ?_)
  show Blk _ _ _ _ _ [some (.im (toD a_)), some (.im (toD exponent_)), some (.im (toD modulus_)), some (.im (toD result_)), none, none] _
  try refine Blk.nx ?_
  have hs_ := ((ev_op (opx_I (C := (fun _ j => 0 < j)) (g := fun i j => i % j)) mild_need (ev_var (i := 0) (x := a_) rfl) (ev_var (i := 2) (x := modulus_) rfl)) : EvX K (W0 E) [some (.im (toD a_)), some (.im (toD exponent_)), some (.im (toD modulus_)), some (.im (toD result_)), none, none] _ _)
  refine blk_seq (blk_set (i := 4) L trivial hs_ fun square_ => ?_)
  show Blk _ _ _ _ _ [some (.im (toD a_)), some (.im (toD exponent_)), some (.im (toD modulus_)), some (.im (toD result_)), some (.im (toD square_)), none] _
  try refine Blk.nx ?_
  have hs_ := ((ev_var (i := 1) (x := exponent_) rfl) : EvX K (W0 E) [some (.im (toD a_)), some (.im (toD exponent_)), some (.im (toD modulus_)), some (.im (toD result_)), some (.im (toD square_)), none] _ _)
  refine blk_seq (blk_set (i := 5) L trivial hs_ fun rest_ => ?_)
  show Blk _ _ _ _ _ [some (.im (toD a_)), some (.im (toD exponent_)), some (.im (toD modulus_)), some (.im (toD result_)), some (.im (toD square_)), some (.im (toD rest_))] _
  try refine Blk.nx ?_
  refine blk_seq (blk_while (S := Int × Int × Int) (m_power_w1 modulus_ (m_power_k3)) (fun (s : Int × Int × Int) => match s with | (result_, square_, rest_) => ((Res.ok rest_)).bind fun (t282 : Int) => ((Res.ok (0 : Int))).bind fun (t283 : Int) => Res.ok (decide (t283 < t282))) (fun n s => match s with | (result_, square_, rest_) => ((((Res.ok rest_)).bind fun (t284 : Int) => ((Res.ok (1 : Int))).bind fun (t285 : Int) => Res.ok (Builtin.bitAnd t284 t285)).bind fun (t286 : Int) => ((Res.ok (1 : Int))).bind fun (t287 : Int) => Res.ok (decide (t286 = t287))).bind fun b => cond b   (((((Res.ok result_)).bind fun (t294 : Int) => ((Res.ok square_)).bind fun (t295 : Int) => Res.need (CMulX t294 t295) (Res.ok (t294 * t295))).bind fun (t296 : Int) => ((Res.ok modulus_)).bind fun (t297 : Int) => Res.need (0 < t297) (Res.ok (t296 % t297))).bind fun (result_ : Int) =>   (m_power_k2 modulus_ square_ rest_ (m_power_w1 modulus_ (m_power_k3) n)) result_)   ((m_power_k2 modulus_ square_ rest_ (m_power_w1 modulus_ (m_power_k3) n)) result_)) (m_power_k3) (fun (result_, square_, rest_) => [some (.im (toD a_)), some (.im (toD exponent_)), some (.im (toD modulus_)), some (.im (toD result_)), some (.im (toD square_)), some (.im (toD rest_))]) (result_, square_, rest_) (rest_.toNat + 1) L ?_ (.same (.same (.same (.same (.same (.same .nil)))))) ?_ (fun ⟨_, _, _⟩ => rfl) (fun _ ⟨_, _, _⟩ => rfl) ?_ ?_)
  · rintro ⟨result_, square_, rest_⟩
    exact trivial
  · rintro ⟨result_, square_, rest_⟩
    exact ((et_test (ev_op (opx_B0 (g := fun i j => decide (j < i))) mild_ok (ev_var (i := 5) (x := rest_) rfl) (ev_int (i := 0)))) : EvT K (W0 E) [some (.im (toD a_)), some (.im (toD exponent_)), some (.im (toD modulus_)), some (.im (toD result_)), some (.im (toD square_)), some (.im (toD rest_))] _ _)
  · intro n1 s_ N_ hN1
    obtain ⟨result_, square_, rest_⟩ := s_
    show Blk _ _ _ _ _ [some (.im (toD a_)), some (.im (toD exponent_)), some (.im (toD modulus_)), some (.im (toD result_)), some (.im (toD square_)), some (.im (toD rest_))] _
    have ht_ := ((et_test (ev_op opx_eqI mild_ok (ev_op (opx_I0 (g := Builtin.bitAnd)) mild_ok (ev_var (i := 5) (x := rest_) rfl) (ev_int (i := 1))) (ev_int (i := 1)))) : EvT K (W0 E) [some (.im (toD a_)), some (.im (toD exponent_)), some (.im (toD modulus_)), some (.im (toD result_)), some (.im (toD square_)), some (.im (toD rest_))] _ _)
    refine blk_seq (blk_ifj (S := Int) (fun result_ => [some (.im (toD a_)), some (.im (toD exponent_)), some (.im (toD modulus_)), some (.im (toD result_)), some (.im (toD square_)), some (.im (toD rest_))]) (m_power_k2 modulus_ square_ rest_ (m_power_w1 modulus_ (m_power_k3) n1)) L trivial ht_ ?_ ?_ ?_)
    · intro result_
      show Blk _ _ _ _ _ [some (.im (toD a_)), some (.im (toD exponent_)), some (.im (toD modulus_)), some (.im (toD result_)), some (.im (toD square_)), some (.im (toD rest_))] ((m_power_k2 modulus_ square_ rest_ (m_power_w1 modulus_ (m_power_k3) n1)) result_)
      unfold m_power_k2
      try refine Blk.nx ?_
      have hs_ := ((ev_op (opx_I (C := (fun _ j => 0 < j)) (g := fun i j => i % j)) mild_need (ev_op (opx_I (C := CMulX) (g := fun i j => i * j)) mild_need (ev_var (i := 4) (x := square_) rfl) (ev_var (i := 4) (x := square_) rfl)) (ev_var (i := 2) (x := modulus_) rfl)) : EvX K (W0 E) [some (.im (toD a_)), some (.im (toD exponent_)), some (.im (toD modulus_)), some (.im (toD result_)), some (.im (toD square_)), some (.im (toD rest_))] _ _)
      refine blk_seq (blk_set (i := 4) L trivial hs_ fun square_ => ?_)
      show Blk _ _ _ _ _ [some (.im (toD a_)), some (.im (toD exponent_)), some (.im (toD modulus_)), some (.im (toD result_)), some (.im (toD square_)), some (.im (toD rest_))] _
      try refine Blk.nx ?_
      have hs_ := ((ev_opI (C := (fun _ j => 0 ≤ j)) (g := fun i j => i / 2 ^ j.toNat) (fun x y _ h => by cases h; (show (0 : Int) ≤ _; decide)) (ev_var (i := 5) (x := rest_) rfl) (ev_int (i := 1))) : EvX K (W0 E) [some (.im (toD a_)), some (.im (toD exponent_)), some (.im (toD modulus_)), some (.im (toD result_)), some (.im (toD square_)), some (.im (toD rest_))] _ _)
      refine blk_set (i := 5) L trivial hs_ fun rest_ => ?_
      show Blk _ _ _ _ _ [some (.im (toD a_)), some (.im (toD exponent_)), some (.im (toD modulus_)), some (.im (toD result_)), some (.im (toD square_)), some (.im (toD rest_))] _
      try refine Blk.nx ?_
      exact (hN1 (result_, square_, rest_)).weak (.same (.same (.same (.same (.same (.same .nil))))))
    · intro hk2
      have hs_ := ((ev_op (opx_I (C := (fun _ j => 0 < j)) (g := fun i j => i % j)) mild_need (ev_op (opx_I (C := CMulX) (g := fun i j => i * j)) mild_need (ev_var (i := 3) (x := result_) rfl) (ev_var (i := 4) (x := square_) rfl)) (ev_var (i := 2) (x := modulus_) rfl)) : EvX K (W0 E) [some (.im (toD a_)), some (.im (toD exponent_)), some (.im (toD modulus_)), some (.im (toD result_)), some (.im (toD square_)), some (.im (toD rest_))] _ _)
      refine blk_set (i := 3) L trivial hs_ fun result_ => ?_
      show Blk _ _ _ _ _ [some (.im (toD a_)), some (.im (toD exponent_)), some (.im (toD modulus_)), some (.im (toD result_)), some (.im (toD square_)), some (.im (toD rest_))] _
      try refine Blk.nx ?_
      exact (hk2 result_).weak (.same (.same (.same (.same (.same (.same .nil))))))
    · intro hk2
      refine blk_nil ?_
      try refine Blk.nx ?_
      exact (hk2 result_).weak (.same (.same (.same (.same (.same (.same .nil))))))
  · rintro ⟨result_, square_, rest_⟩
    show Blk _ _ _ _ _ [some (.im (toD a_)), some (.im (toD exponent_)), some (.im (toD modulus_)), some (.im (toD result_)), some (.im (toD square_)), some (.im (toD rest_))] ((m_power_k3) (result_, square_, rest_))
    unfold m_power_k3
    try refine Blk.nx ?_
    have hr_ := ((ev_var (i := 3) (x := result_) rfl) : EvX K (W0 E) [some (.im (toD a_)), some (.im (toD exponent_)), some (.im (toD modulus_)), some (.im (toD result_)), some (.im (toD square_)), some (.im (toD rest_))] _ _)
    exact blk_ret L trivial hr_
noncomputable def m_square_class (a_ : Int) (prime_ : Int) : Res Int :=
  ((((Res.ok a_)).bind fun (t298 : Int) => ((Res.ok prime_)).bind fun (t299 : Int) => Res.need (0 < t299) (Res.ok (t298 % t299))).bind fun (t300 : Int) => ((Res.ok (0 : Int))).bind fun (t301 : Int) => Res.ok (decide (t300 = t301))).bind fun b => cond b   ((Res.ok (0 : Int)))   ((((((Res.ok a_)).bind fun a307 => (((((Res.ok prime_)).bind fun (t302 : Int) => ((Res.ok (1 : Int))).bind fun (t303 : Int) => Res.ok (t302 - t303)).bind fun (t304 : Int) => ((Res.ok (2 : Int))).bind fun (t305 : Int) => Res.ok (t304 / t305)).bind fun a309 => (((Res.ok prime_)).bind fun a311 => (Res.ok ()).bind fun a312 => Res.ok (a311, a312)).bind fun a310 => Res.ok (a309, a310)).bind fun a308 => Res.ok (a307, a308)).bind fun p306 => m_power p306.1 p306.2.1 p306.2.2.1).bind fun (t313 : Int) => ((Res.ok (1 : Int))).bind fun (t314 : Int) => Res.ok (decide (t313 = t314))).bind fun b => cond b   ((Res.ok (1 : Int)))   (((Res.ok (1 : Int))).bind fun (t315 : Int) => Res.ok (-t315)))
theorem ok_square_class {P : Program} {w : World} {K : PySem.W.Frag} {mg : Str → Option Value} {base : Heap} (T : Facts K mg) {fd : FuncData} (F : FnP K "square_class" "square_class" s_square_class (He.ga K "square_class") fd) :
    FnOk P w K mg base (L2.CX P w) 2 (He.ga K "square_class") fd ["a", "prime"] (spM K (fun (p : Int × Int × Unit) => m_square_class p.1 p.2.1)) := by
  obtain ⟨fd_power, F_power⟩ := T.d_power
  have G_power := ok_power (P := P) (w := w) (base := base) T F_power
  have b_power : Binds K fd_power ["a", "exponent", "modulus"] [] := F_power.bindsN fun _ _ _ _ _ _ us hl => match us, hl with | [_, _, _], _ => rfl
  refine fn_ok F sc_square_class (fun y => rfl) (fun cdv A outer s H E hr => ?_)
  refine ⟨_, (pss_cons (ps_if (pt_cmpR op_eq (pe_op op_mod (pv 0) (pv 1)) pe_int (nomark _)) (pss_one (ps_ret pe_int)) pss_nil) (pss_cons (ps_if (pt_cmpR op_eq (pe_callS G_power (hr.mono (by decide)) rfl T.g_power F_power.kp b_power (fun σ => passAt (takes_of rfl rfl rfl rfl) σ) (pa_cons (pv 0) (pa_cons (pe_op op_fdiv (pe_op op_sub (pv 1) pe_int) pe_int) (pa_cons (pv 1) pa_nil)))) pe_int (nomark _)) (pss_one (ps_ret pe_int)) pss_nil) (pss_one (ps_ret (pe_un un_neg pe_int))))), ?_⟩
  rintro ⟨a_, prime_, ⟨⟩⟩ F0 H0 Q KP L
  show Blk K F0 H0 KP _ [some (.im (toD a_)), some (.im (toD prime_))] (m_square_class a_ prime_)
  unfold m_square_class
  have ht_ := ((et_test (ev_op opx_eqI mild_ok (ev_op (opx_I (C := (fun _ j => 0 < j)) (g := fun i j => i % j)) mild_need (ev_var (i := 0) (x := a_) rfl) (ev_var (i := 1) (x := prime_) rfl)) (ev_int (i := 0)))) : EvT K (W0 E) [some (.im (toD a_)), some (.im (toD prime_))] _ _)
  refine blk_seq (blk_if2 L trivial ht_ ?_ ?_)
  · have hr_ := ((ev_int (i := 0)) : EvX K (W0 E) [some (.im (toD a_)), some (.im (toD prime_))] _ _)
    exact blk_ret L trivial hr_
  · refine blk_nil ?_
    try refine Blk.nx ?_
    have ht_ := ((et_test (ev_op opx_eqI mild_ok (ev_call (f := (fun (p : Int × Int × Int × Unit) => m_power p.1 p.2.1 p.2.2.1)) (ea_cons (ev_var (i := 0) (x := a_) rfl) (ea_cons (ev_opI (C := CDiv) (g := fun i j => i / j) (fun x y _ h => by cases h; exact ⟨by decide, by decide⟩) (ev_op (opx_I0 (g := fun i j => i - j)) mild_ok (ev_var (i := 1) (x := prime_) rfl) (ev_int (i := 1))) (ev_int (i := 2))) (ea_cons (ev_var (i := 1) (x := prime_) rfl) ea_nil)))) (ev_int (i := 1)))) : EvT K (W0 E) [some (.im (toD a_)), some (.im (toD prime_))] _ _)
    refine blk_seq (blk_if2 L trivial ht_ ?_ ?_)
    · have hr_ := ((ev_int (i := 1)) : EvX K (W0 E) [some (.im (toD a_)), some (.im (toD prime_))] _ _)
      exact blk_ret L trivial hr_
    · refine blk_nil ?_
      try refine Blk.nx ?_
      have hr_ := ((ev_un (g := fun i => -i) (ev_int (i := 1))) : EvX K (W0 E) [some (.im (toD a_)), some (.im (toD prime_))] _ _)
      exact blk_ret L trivial hr_
noncomputable def m_split_twos (number_ : Int) : Res (T2 Int Int) :=
  (((((Res.ok number_)).bind fun (t317 : Int) => (((Res.ok number_)).bind fun (t316 : Int) => Res.ok (-t316)).bind fun (t318 : Int) => Res.ok (Builtin.bitAnd t317 t318)).bind fun (t319 : Int) => Res.ok ((Builtin.Int.intBits t319 : Nat) : Int)).bind fun (t320 : Int) => ((Res.ok (1 : Int))).bind fun (t321 : Int) => Res.ok (t320 - t321)).bind fun (twos_ : Int) =>   ((((Res.ok number_)).bind fun (t322 : Int) => ((Res.ok twos_)).bind fun (t323 : Int) => Res.need (0 ≤ t323) (Res.ok (t322 / 2 ^ t323.toNat))).bind fun a325 => (((Res.ok twos_)).bind fun a327 => (Res.ok ()).bind fun a328 => Res.ok (a327, a328)).bind fun a326 => Res.ok (a325, a326)).bind fun p324 => Res.ok (T2.mk p324.1 p324.2.1)
theorem ok_split_twos {P : Program} {w : World} {K : PySem.W.Frag} {mg : Str → Option Value} {base : Heap} (T : Facts K mg) {fd : FuncData} (F : FnP K "split_twos" "split_twos" s_split_twos (He.ga K "split_twos") fd) :
    FnOk P w K mg base (L2.CX P w) 1 (He.ga K "split_twos") fd ["number"] (spM K (fun (p : Int × Unit) => m_split_twos p.1)) := by
  refine fn_ok F sc_split_twos (fun y => rfl) (fun cdv A outer s H E hr => ?_)
  refine ⟨_, (pss_cons (ps_set (i := 1) sc_split_twos.nd rfl (Or.inl rfl) (pe_op op_sub (pe_bits (pe_op op_and (pv 0) (pe_un un_neg (pv 0)))) pe_int)) (pss_one (ps_ret (pe_tup (pa_cons (pe_op op_shr (pv 0) (pv 1)) (pa_cons (pv 1) pa_nil)))))), ?_⟩
  rintro ⟨number_, ⟨⟩⟩ F0 H0 Q KP L
  show Blk K F0 H0 KP _ [some (.im (toD number_)), none] (m_split_twos number_)
  unfold m_split_twos
  have hs_ := ((ev_op (opx_I0 (g := fun i j => i - j)) mild_ok (ev_bits (ev_op (opx_I0 (g := Builtin.bitAnd)) mild_ok (ev_var (i := 0) (x := number_) rfl) (ev_un (g := fun i => -i) (ev_var (i := 0) (x := number_) rfl)))) (ev_int (i := 1))) : EvX K (W0 E) [some (.im (toD number_)), none] _ _)
  refine blk_seq (blk_set (i := 1) L trivial hs_ fun twos_ => ?_)
  show Blk _ _ _ _ _ [some (.im (toD number_)), some (.im (toD twos_))] _
  try refine Blk.nx ?_
  have hr_ := ((ev_tup (f := (fun y => T2.mk y.1 y.2.1)) (ea_cons (ev_op (opx_I (C := (fun _ j => 0 ≤ j)) (g := fun i j => i / 2 ^ j.toNat)) mild_need (ev_var (i := 0) (x := number_) rfl) (ev_var (i := 1) (x := twos_) rfl)) (ea_cons (ev_var (i := 1) (x := twos_) rfl) ea_nil)) (fun _ => rfl) (fun _ => by show 2 ≤ 100000; decide)) : EvX K (W0 E) [some (.im (toD number_)), some (.im (toD twos_))] _ _)
  exact blk_ret L trivial hr_
noncomputable def m_u_non_square_w1 (prime_ : Int) (k1 : Int → Res Int) : Nat → Int → Res Int
  | 0, _ => Res.stuck
  | n1 + 1, number_ => (((((Res.ok number_)).bind fun a330 => (((Res.ok prime_)).bind fun a332 => (Res.ok ()).bind fun a333 => Res.ok (a332, a333)).bind fun a331 => Res.ok (a330, a331)).bind fun p329 => m_square_class p329.1 p329.2.1).bind fun (t335 : Int) => (((Res.ok (1 : Int))).bind fun (t334 : Int) => Res.ok (-t334)).bind fun (t336 : Int) => Res.ok (!decide (t335 = t336))).bind fun b => cond b   (((Res.ok (1 : Int))).bind fun (y337 : Int) => (fun (number_ : Int) => m_u_non_square_w1 prime_ k1 n1 number_) (number_ + y337))   (k1 number_)
noncomputable def m_u_non_square_k2 : Int → Res Int := fun number_ =>   (Res.ok number_)
noncomputable def m_u_non_square (prime_ : Int) : Res Int :=
  ((Res.ok (2 : Int))).bind fun (number_ : Int) =>   m_u_non_square_w1 prime_ (m_u_non_square_k2) (prime_.toNat + 1) number_
theorem ok_u_non_square {P : Program} {w : World} {K : PySem.W.Frag} {mg : Str → Option Value} {base : Heap} (T : Facts K mg) {fd : FuncData} (F : FnP K "_non_square" "_non_square" s_u_non_square (He.ga K "_non_square") fd) :
    FnOk P w K mg base (L2.CX P w) 3 (He.ga K "_non_square") fd ["prime"] (spM K (fun (p : Int × Unit) => m_u_non_square p.1)) := by
  obtain ⟨fd_square_class, F_square_class⟩ := T.d_square_class
  have G_square_class := ok_square_class (P := P) (w := w) (base := base) T F_square_class
  have b_square_class : Binds K fd_square_class ["a", "prime"] [] := F_square_class.bindsN fun _ _ _ _ _ _ us hl => match us, hl with | [_, _], _ => rfl
  refine fn_ok F sc_u_non_square (fun y => rfl) (fun cdv A outer s H E hr => ?_)
  refine ⟨_, (pss_cons (ps_set (i := 1) sc_u_non_square.nd rfl (Or.inl rfl) pe_int) (pss_cons (ps_while (passes_of rfl) (pt_cmpR op_ne (pe_callS G_square_class (hr.mono (by decide)) rfl T.g_square_class F_square_class.kp b_square_class (fun σ => passAt (takes_of rfl rfl rfl rfl) σ) (pa_cons (pv 1) (pa_cons (pv 0) pa_nil))) (pe_un un_neg pe_int) (nomark _)) (pss_one (ps_aug (i := 1) sc_u_non_square.nd rfl (Or.inl rfl) pe_int ip_add))) (pss_one (ps_ret (pv 1))))), ?_⟩
  rintro ⟨prime_, ⟨⟩⟩ F0 H0 Q KP L
  show Blk K F0 H0 KP _ [some (.im (toD prime_)), none] (m_u_non_square prime_)
  unfold m_u_non_square
  have hs_ := ((ev_int (i := 2)) : EvX K (W0 E) [some (.im (toD prime_)), none] _ _)
  refine blk_seq (blk_set (i := 1) L trivial hs_ fun number_ => ?_)
  show Blk _ _ _ _ _ [some (.im (toD prime_)), some (.im (toD number_))] _
  try refine Blk.nx ?_
  refine blk_seq (blk_while (S := Int) (m_u_non_square_w1 prime_ (m_u_non_square_k2)) (fun (s : Int) => match s with | number_ => ((((Res.ok number_)).bind fun a330 => (((Res.ok prime_)).bind fun a332 => (Res.ok ()).bind fun a333 => Res.ok (a332, a333)).bind fun a331 => Res.ok (a330, a331)).bind fun p329 => m_square_class p329.1 p329.2.1).bind fun (t335 : Int) => (((Res.ok (1 : Int))).bind fun (t334 : Int) => Res.ok (-t334)).bind fun (t336 : Int) => Res.ok (!decide (t335 = t336))) (fun n s => match s with | number_ => ((Res.ok (1 : Int))).bind fun (y337 : Int) => (fun (number_ : Int) => m_u_non_square_w1 prime_ (m_u_non_square_k2) n number_) (number_ + y337)) (m_u_non_square_k2) (fun number_ => [some (.im (toD prime_)), some (.im (toD number_))]) number_ (prime_.toNat + 1) L ?_ (.same (.same .nil)) ?_ (fun _ => rfl) (fun _ _ => rfl) ?_ ?_)
  · intro number_
    exact trivial
  · intro number_
    exact ((et_test (ev_op opx_neI mild_ok (ev_call (f := (fun (p : Int × Int × Unit) => m_square_class p.1 p.2.1)) (ea_cons (ev_var (i := 1) (x := number_) rfl) (ea_cons (ev_var (i := 0) (x := prime_) rfl) ea_nil))) (ev_un (g := fun i => -i) (ev_int (i := 1))))) : EvT K (W0 E) [some (.im (toD prime_)), some (.im (toD number_))] _ _)
  · intro n1 s_ N_ hN1
    revert s_; intro number_
    show Blk _ _ _ _ _ [some (.im (toD prime_)), some (.im (toD number_))] _
    have hs_ := ((ev_int (i := 1)) : EvX K (W0 E) [some (.im (toD prime_)), some (.im (toD number_))] _ _)
    refine blk_aug (i := 1) (x := number_) (g := fun i j => i + j) L trivial rfl hs_ fun y338 => ?_
    show Blk _ _ _ _ _ [some (.im (toD prime_)), some (.im (toD (number_ + y338)))] ((fun (number_ : Int) => _) (number_ + y338))
    generalize number_ + y338 = number_
    show Blk _ _ _ _ _ [some (.im (toD prime_)), some (.im (toD number_))] _
    try refine Blk.nx ?_
    exact (hN1 number_).weak (.same (.same .nil))
  · intro number_
    show Blk _ _ _ _ _ [some (.im (toD prime_)), some (.im (toD number_))] ((m_u_non_square_k2) number_)
    unfold m_u_non_square_k2
    try refine Blk.nx ?_
    have hr_ := ((ev_var (i := 1) (x := number_) rfl) : EvX K (W0 E) [some (.im (toD prime_)), some (.im (toD number_))] _ _)
    exact blk_ret L trivial hr_
noncomputable def m_u_root_of_square_k3 (prime_ : Int) (helper_ : Int) (g2 : Int × Int × Int → Res Int) : Int × Int → Res Int := fun (root_, rest_) =>   ((((Res.ok helper_)).bind fun (t393 : Int) => ((Res.ok helper_)).bind fun (t394 : Int) => Res.need (CMulX t393 t394) (Res.ok (t393 * t394))).bind fun (t395 : Int) => ((Res.ok prime_)).bind fun (t396 : Int) => Res.need (0 < t396) (Res.ok (t395 % t396))).bind fun (helper_ : Int) =>   g2 (root_, rest_, helper_)
noncomputable def m_u_root_of_square_l2 (prime_ : Int) (k2 : Int × Int × Int → Res Int) : List Int → Int × Int × Int → Res Int
  | [], s => k2 s
  | x381 :: r2, (root_, rest_, helper_) =>   (fun (level_ : Int) => (((((Res.ok rest_)).bind fun a385 => ((((Res.ok (1 : Int))).bind fun (t382 : Int) => ((Res.ok level_)).bind fun (t383 : Int) => Res.need (CShl t382 t383) (Res.ok (t382 * 2 ^ t383.toNat))).bind fun a387 => (((Res.ok prime_)).bind fun a389 => (Res.ok ()).bind fun a390 => Res.ok (a389, a390)).bind fun a388 => Res.ok (a387, a388)).bind fun a386 => Res.ok (a385, a386)).bind fun p384 => m_power p384.1 p384.2.1 p384.2.2.1).bind fun (t391 : Int) => ((Res.ok (1 : Int))).bind fun (t392 : Int) => Res.ok (!decide (t391 = t392))).bind fun b => cond b   (((((Res.ok root_)).bind fun (t397 : Int) => ((Res.ok helper_)).bind fun (t398 : Int) => Res.need (CMulX t397 t398) (Res.ok (t397 * t398))).bind fun (t399 : Int) => ((Res.ok prime_)).bind fun (t400 : Int) => Res.need (0 < t400) (Res.ok (t399 % t400))).bind fun (root_ : Int) =>   (((((Res.ok rest_)).bind fun (t401 : Int) => ((Res.ok helper_)).bind fun (t402 : Int) => Res.need (CMulX t401 t402) (Res.ok (t401 * t402))).bind fun (t403 : Int) => ((Res.ok helper_)).bind fun (t404 : Int) => Res.need (CMulX t403 t404) (Res.ok (t403 * t404))).bind fun (t405 : Int) => ((Res.ok prime_)).bind fun (t406 : Int) => Res.need (0 < t406) (Res.ok (t405 % t406))).bind fun (rest_ : Int) =>   (m_u_root_of_square_k3 prime_ helper_ (m_u_root_of_square_l2 prime_ k2 r2)) (root_, rest_))   ((m_u_root_of_square_k3 prime_ helper_ (m_u_root_of_square_l2 prime_ k2 r2)) (root_, rest_))) x381
noncomputable def m_u_root_of_square_k4 : Int × Int × Int → Res Int := fun (root_, rest_, helper_) =>   (Res.ok root_)
noncomputable def m_u_root_of_square (a_ : Int) (prime_ : Int) : Res Int :=
  (((((Res.ok prime_)).bind fun (t339 : Int) => ((Res.ok (1 : Int))).bind fun (t340 : Int) => Res.ok (t339 - t340)).bind fun a342 => (Res.ok ()).bind fun a343 => Res.ok (a342, a343)).bind fun p341 => m_split_twos p341.1).bind fun (u344 : (T2 Int Int)) =>   (fun (odd_ : Int) (twos_ : Int) => ((((Res.ok a_)).bind fun a350 => (((((Res.ok odd_)).bind fun (t345 : Int) => ((Res.ok (1 : Int))).bind fun (t346 : Int) => Res.ok (t345 + t346)).bind fun (t347 : Int) => ((Res.ok (2 : Int))).bind fun (t348 : Int) => Res.ok (t347 / t348)).bind fun a352 => (((Res.ok prime_)).bind fun a354 => (Res.ok ()).bind fun a355 => Res.ok (a354, a355)).bind fun a353 => Res.ok (a352, a353)).bind fun a351 => Res.ok (a350, a351)).bind fun p349 => m_power p349.1 p349.2.1 p349.2.2.1).bind fun (root_ : Int) =>   ((((Res.ok a_)).bind fun a357 => (((Res.ok odd_)).bind fun a359 => (((Res.ok prime_)).bind fun a361 => (Res.ok ()).bind fun a362 => Res.ok (a361, a362)).bind fun a360 => Res.ok (a359, a360)).bind fun a358 => Res.ok (a357, a358)).bind fun p356 => m_power p356.1 p356.2.1 p356.2.2.1).bind fun (rest_ : Int) =>   (((Res.ok twos_)).bind fun (t363 : Int) => ((Res.ok (2 : Int))).bind fun (t364 : Int) => Res.ok (decide (t363 < t364))).bind fun b => cond b   ((Res.ok root_))   (((((((Res.ok prime_)).bind fun a366 => (Res.ok ()).bind fun a367 => Res.ok (a366, a367)).bind fun p365 => m_u_non_square p365.1).bind fun a369 => (((Res.ok odd_)).bind fun a371 => (((Res.ok prime_)).bind fun a373 => (Res.ok ()).bind fun a374 => Res.ok (a373, a374)).bind fun a372 => Res.ok (a371, a372)).bind fun a370 => Res.ok (a369, a370)).bind fun p368 => m_power p368.1 p368.2.1 p368.2.2.1).bind fun (helper_ : Int) =>   ((((Res.ok twos_)).bind fun (t375 : Int) => ((Res.ok (2 : Int))).bind fun (t376 : Int) => Res.ok (t375 - t376)).bind fun (t379 : Int) => (((Res.ok (1 : Int))).bind fun (t377 : Int) => Res.ok (-t377)).bind fun (t380 : Int) => Res.need (okRange t379 ∧ okRange t380) (Res.ok (pyDown t379 t380))).bind fun (xs407 : List Int) => m_u_root_of_square_l2 prime_ (m_u_root_of_square_k4) xs407 (root_, rest_, helper_))) u344.a u344.b
theorem ok_u_root_of_square {P : Program} {w : World} {K : PySem.W.Frag} {mg : Str → Option Value} {base : Heap} (T : Facts K mg) {fd : FuncData} (F : FnP K "_root_of_square" "_root_of_square" s_u_root_of_square (He.ga K "_root_of_square") fd) :
    FnOk P w K mg base (L2.CX P w) 4 (He.ga K "_root_of_square") fd ["a", "prime"] (spM K (fun (p : Int × Int × Unit) => m_u_root_of_square p.1 p.2.1)) := by
  obtain ⟨fd_u_non_square, F_u_non_square⟩ := T.d_u_non_square
  have G_u_non_square := ok_u_non_square (P := P) (w := w) (base := base) T F_u_non_square
  have b_u_non_square : Binds K fd_u_non_square ["prime"] [] := F_u_non_square.bindsN fun _ _ _ _ _ _ us hl => match us, hl with | [_], _ => rfl
  obtain ⟨fd_power, F_power⟩ := T.d_power
  have G_power := ok_power (P := P) (w := w) (base := base) T F_power
  have b_power : Binds K fd_power ["a", "exponent", "modulus"] [] := F_power.bindsN fun _ _ _ _ _ _ us hl => match us, hl with | [_, _, _], _ => rfl
  obtain ⟨fd_split_twos, F_split_twos⟩ := T.d_split_twos
  have G_split_twos := ok_split_twos (P := P) (w := w) (base := base) T F_split_twos
  have b_split_twos : Binds K fd_split_twos ["number"] [] := F_split_twos.bindsN fun _ _ _ _ _ _ us hl => match us, hl with | [_], _ => rfl
  refine fn_ok F sc_u_root_of_square (fun y => rfl) (fun cdv A outer s H E hr => ?_)
  refine ⟨_, (pss_cons (ps_asg (pe_callS G_split_twos (hr.mono (by decide)) rfl T.g_split_twos F_split_twos.kp b_split_twos (fun σ => passAt (takes_of rfl rfl rfl rfl) σ) (pa_cons (pe_op op_sub (pv 1) pe_int) pa_nil)) (pg_tup rfl (pgs_cons (pg_name (i := 2) sc_u_root_of_square.nd rfl (Or.inl rfl)) (pgs_cons (pg_name (i := 3) sc_u_root_of_square.nd rfl (Or.inl rfl)) pgs_nil)))) (pss_cons (ps_set (i := 4) sc_u_root_of_square.nd rfl (Or.inl rfl) (pe_callS G_power (hr.mono (by decide)) rfl T.g_power F_power.kp b_power (fun σ => passAt (takes_of rfl rfl rfl rfl) σ) (pa_cons (pv 0) (pa_cons (pe_op op_fdiv (pe_op op_add (pv 2) pe_int) pe_int) (pa_cons (pv 1) pa_nil))))) (pss_cons (ps_set (i := 5) sc_u_root_of_square.nd rfl (Or.inl rfl) (pe_callS G_power (hr.mono (by decide)) rfl T.g_power F_power.kp b_power (fun σ => passAt (takes_of rfl rfl rfl rfl) σ) (pa_cons (pv 0) (pa_cons (pv 2) (pa_cons (pv 1) pa_nil))))) (pss_cons (ps_if (pt_cmpR op_lt (pv 3) pe_int (nomark _)) (pss_one (ps_ret (pv 4))) pss_nil) (pss_cons (ps_set (i := 6) sc_u_root_of_square.nd rfl (Or.inl rfl) (pe_callS G_power (hr.mono (by decide)) rfl T.g_power F_power.kp b_power (fun σ => passAt (takes_of rfl rfl rfl rfl) σ) (pa_cons (pe_callS G_u_non_square (hr.mono (by decide)) rfl T.g_u_non_square F_u_non_square.kp b_u_non_square (fun σ => passAt (takes_of rfl rfl rfl rfl) σ) (pa_cons (pv 1) pa_nil)) (pa_cons (pv 2) (pa_cons (pv 1) pa_nil))))) (pss_cons (ps_for (passes_of rfl) rfl (pi_range3 rfl T.n_range (pa_cons (pe_op op_sub (pv 3) pe_int) (pa_cons (pe_un un_neg pe_int) (pa_cons (pe_un un_neg pe_int) pa_nil)))) (pg_name (i := 7) sc_u_root_of_square.nd rfl (Or.inl rfl)) (pss_cons (ps_if (pt_cmpR op_ne (pe_callS G_power (hr.mono (by decide)) rfl T.g_power F_power.kp b_power (fun σ => passAt (takes_of rfl rfl rfl rfl) σ) (pa_cons (pv 5) (pa_cons (pe_op op_shlW pe_int (pv 7)) (pa_cons (pv 1) pa_nil)))) pe_int (nomark _)) (pss_cons (ps_set (i := 4) sc_u_root_of_square.nd rfl (Or.inl rfl) (pe_op op_mod (pe_op op_mulX (pv 4) (pv 6)) (pv 1))) (pss_one (ps_set (i := 5) sc_u_root_of_square.nd rfl (Or.inl rfl) (pe_op op_mod (pe_op op_mulX (pe_op op_mulX (pv 5) (pv 6)) (pv 6)) (pv 1))))) pss_nil) (pss_one (ps_set (i := 6) sc_u_root_of_square.nd rfl (Or.inl rfl) (pe_op op_mod (pe_op op_mulX (pv 6) (pv 6)) (pv 1)))))) (pss_one (ps_ret (pv 4))))))))), ?_⟩
  rintro ⟨a_, prime_, ⟨⟩⟩ F0 H0 Q KP L
  show Blk K F0 H0 KP _ [some (.im (toD a_)), some (.im (toD prime_)), none, none, none, none, none, none] (m_u_root_of_square a_ prime_)
  unfold m_u_root_of_square
  have hs_ := ((ev_call (f := (fun (p : Int × Unit) => m_split_twos p.1)) (ea_cons (ev_op (opx_I0 (g := fun i j => i - j)) mild_ok (ev_var (i := 1) (x := prime_) rfl) (ev_int (i := 1))) ea_nil)) : EvX K (W0 E) [some (.im (toD a_)), some (.im (toD prime_)), none, none, none, none, none, none] _ _)
  refine blk_seq (blk_asg L trivial hs_ (fun _ => (gx_tup (gxs_cons gx_name (gxs_cons gx_name gxs_nil)) rfl)) fun u344 => ?_)
  show Blk _ _ _ _ _ [some (.im (toD a_)), some (.im (toD prime_)), some (.im (toD u344.a)), some (.im (toD u344.b)), none, none, none, none] ((fun (odd_ : Int) (twos_ : Int) => _) u344.a u344.b)
  generalize u344.a = odd_
  generalize u344.b = twos_
  show Blk _ _ _ _ _ [some (.im (toD a_)), some (.im (toD prime_)), some (.im (toD odd_)), some (.im (toD twos_)), none, none, none, none] _
  try refine Blk.nx ?_
  have hs_ := ((ev_call (f := (fun (p : Int × Int × Int × Unit) => m_power p.1 p.2.1 p.2.2.1)) (ea_cons (ev_var (i := 0) (x := a_) rfl) (ea_cons (ev_opI (C := CDiv) (g := fun i j => i / j) (fun x y _ h => by cases h; exact ⟨by decide, by decide⟩) (ev_op (opx_I0 (g := fun i j => i + j)) mild_ok (ev_var (i := 2) (x := odd_) rfl) (ev_int (i := 1))) (ev_int (i := 2))) (ea_cons (ev_var (i := 1) (x := prime_) rfl) ea_nil)))) : EvX K (W0 E) [some (.im (toD a_)), some (.im (toD prime_)), some (.im (toD odd_)), some (.im (toD twos_)), none, none, none, none] _ _)
  refine blk_seq (blk_set (i := 4) L trivial hs_ fun root_ => ?_)
  show Blk _ _ _ _ _ [some (.im (toD a_)), some (.im (toD prime_)), some (.im (toD odd_)), some (.im (toD twos_)), some (.im (toD root_)), none, none, none] _
  try refine Blk.nx ?_
  have hs_ := ((ev_call (f := (fun (p : Int × Int × Int × Unit) => m_power p.1 p.2.1 p.2.2.1)) (ea_cons (ev_var (i := 0) (x := a_) rfl) (ea_cons (ev_var (i := 2) (x := odd_) rfl) (ea_cons (ev_var (i := 1) (x := prime_) rfl) ea_nil)))) : EvX K (W0 E) [some (.im (toD a_)), some (.im (toD prime_)), some (.im (toD odd_)), some (.im (toD twos_)), some (.im (toD root_)), none, none, none] _ _)
  refine blk_seq (blk_set (i := 5) L trivial hs_ fun rest_ => ?_)
  show Blk _ _ _ _ _ [some (.im (toD a_)), some (.im (toD prime_)), some (.im (toD odd_)), some (.im (toD twos_)), some (.im (toD root_)), some (.im (toD rest_)), none, none] _
  try refine Blk.nx ?_
  have ht_ := ((et_test (ev_op (opx_B0 (g := fun i j => decide (i < j))) mild_ok (ev_var (i := 3) (x := twos_) rfl) (ev_int (i := 2)))) : EvT K (W0 E) [some (.im (toD a_)), some (.im (toD prime_)), some (.im (toD odd_)), some (.im (toD twos_)), some (.im (toD root_)), some (.im (toD rest_)), none, none] _ _)
  refine blk_seq (blk_if2 L trivial ht_ ?_ ?_)
  · have hr_ := ((ev_var (i := 4) (x := root_) rfl) : EvX K (W0 E) [some (.im (toD a_)), some (.im (toD prime_)), some (.im (toD odd_)), some (.im (toD twos_)), some (.im (toD root_)), some (.im (toD rest_)), none, none] _ _)
    exact blk_ret L trivial hr_
  · refine blk_nil ?_
    try refine Blk.nx ?_
    have hs_ := ((ev_call (f := (fun (p : Int × Int × Int × Unit) => m_power p.1 p.2.1 p.2.2.1)) (ea_cons (ev_call (f := (fun (p : Int × Unit) => m_u_non_square p.1)) (ea_cons (ev_var (i := 1) (x := prime_) rfl) ea_nil)) (ea_cons (ev_var (i := 2) (x := odd_) rfl) (ea_cons (ev_var (i := 1) (x := prime_) rfl) ea_nil)))) : EvX K (W0 E) [some (.im (toD a_)), some (.im (toD prime_)), some (.im (toD odd_)), some (.im (toD twos_)), some (.im (toD root_)), some (.im (toD rest_)), none, none] _ _)
    refine blk_seq (blk_set (i := 6) L trivial hs_ fun helper_ => ?_)
    show Blk _ _ _ _ _ [some (.im (toD a_)), some (.im (toD prime_)), some (.im (toD odd_)), some (.im (toD twos_)), some (.im (toD root_)), some (.im (toD rest_)), some (.im (toD helper_)), none] _
    try refine Blk.nx ?_
    have hi_ := ((ei_down (ev_op (opx_I0 (g := fun i j => i - j)) mild_ok (ev_var (i := 3) (x := twos_) rfl) (ev_int (i := 2))) (ev_un (g := fun i => -i) (ev_int (i := 1))) (ev_un (g := fun i => -i) (ev_int (i := 1)))) : EvI K (W0 E) [some (.im (toD a_)), some (.im (toD prime_)), some (.im (toD odd_)), some (.im (toD twos_)), some (.im (toD root_)), some (.im (toD rest_)), some (.im (toD helper_)), none] _ _)
    refine blk_seq (blk_for (S := Int × Int × Int) (m_u_root_of_square_l2 prime_ (m_u_root_of_square_k4)) (m_u_root_of_square_k4) (fun (root_, rest_, helper_) => [some (.im (toD a_)), some (.im (toD prime_)), some (.im (toD odd_)), some (.im (toD twos_)), some (.im (toD root_)), some (.im (toD rest_)), some (.im (toD helper_)), none]) (root_, rest_, helper_) L trivial hi_ (fun _ => gx_name) (.same (.same (.same (.same (.same (.same (.same (.same .nil)))))))) (fun _ => rfl) ?_ ?_)
    · intro F2 L2 hB2 x381 r2 s_ N_ hN2
      obtain ⟨root_, rest_, helper_⟩ := s_
      show Blk _ _ _ _ _ [some (.im (toD a_)), some (.im (toD prime_)), some (.im (toD odd_)), some (.im (toD twos_)), some (.im (toD root_)), some (.im (toD rest_)), some (.im (toD helper_)), some (.im (toD x381))] (m_u_root_of_square_l2 prime_ (m_u_root_of_square_k4) (x381 :: r2) (root_, rest_, helper_))
      rw [m_u_root_of_square_l2]
      show Blk _ _ _ _ _ _ ((fun (level_ : Int) => _) x381)
      generalize x381 = level_
      show Blk _ _ _ _ _ [some (.im (toD a_)), some (.im (toD prime_)), some (.im (toD odd_)), some (.im (toD twos_)), some (.im (toD root_)), some (.im (toD rest_)), some (.im (toD helper_)), some (.im (toD level_))] _
      have ht_ := ((et_test (ev_op opx_neI mild_ok (ev_call (f := (fun (p : Int × Int × Int × Unit) => m_power p.1 p.2.1 p.2.2.1)) (ea_cons (ev_var (i := 5) (x := rest_) rfl) (ea_cons (ev_op (opx_I (C := CShl) (g := fun i j => i * 2 ^ j.toNat)) mild_need (ev_int (i := 1)) (ev_var (i := 7) (x := level_) rfl)) (ea_cons (ev_var (i := 1) (x := prime_) rfl) ea_nil)))) (ev_int (i := 1)))) : EvT K (W0 E) [some (.im (toD a_)), some (.im (toD prime_)), some (.im (toD odd_)), some (.im (toD twos_)), some (.im (toD root_)), some (.im (toD rest_)), some (.im (toD helper_)), some (.im (toD level_))] _ _)
      refine blk_seq (blk_ifj (S := Int × Int) (fun (root_, rest_) => [some (.im (toD a_)), some (.im (toD prime_)), some (.im (toD odd_)), some (.im (toD twos_)), some (.im (toD root_)), some (.im (toD rest_)), some (.im (toD helper_)), some (.im (toD level_))]) (m_u_root_of_square_k3 prime_ helper_ (m_u_root_of_square_l2 prime_ (m_u_root_of_square_k4) r2)) L2 trivial ht_ ?_ ?_ ?_)
      · rintro ⟨root_, rest_⟩
        show Blk _ _ _ _ _ [some (.im (toD a_)), some (.im (toD prime_)), some (.im (toD odd_)), some (.im (toD twos_)), some (.im (toD root_)), some (.im (toD rest_)), some (.im (toD helper_)), some (.im (toD level_))] ((m_u_root_of_square_k3 prime_ helper_ (m_u_root_of_square_l2 prime_ (m_u_root_of_square_k4) r2)) (root_, rest_))
        unfold m_u_root_of_square_k3
        try refine Blk.nx ?_
        have hs_ := ((ev_op (opx_I (C := (fun _ j => 0 < j)) (g := fun i j => i % j)) mild_need (ev_op (opx_I (C := CMulX) (g := fun i j => i * j)) mild_need (ev_var (i := 6) (x := helper_) rfl) (ev_var (i := 6) (x := helper_) rfl)) (ev_var (i := 1) (x := prime_) rfl)) : EvX K (W0 E) [some (.im (toD a_)), some (.im (toD prime_)), some (.im (toD odd_)), some (.im (toD twos_)), some (.im (toD root_)), some (.im (toD rest_)), some (.im (toD helper_)), some (.im (toD level_))] _ _)
        refine blk_set (i := 6) L2 trivial hs_ fun helper_ => ?_
        show Blk _ _ _ _ _ [some (.im (toD a_)), some (.im (toD prime_)), some (.im (toD odd_)), some (.im (toD twos_)), some (.im (toD root_)), some (.im (toD rest_)), some (.im (toD helper_)), some (.im (toD level_))] _
        try refine Blk.nx ?_
        exact (hN2 (root_, rest_, helper_)).weak (.same (.same (.same (.same (.same (.same (.same (.drop .nil))))))))
      · intro hk3
        have hs_ := ((ev_op (opx_I (C := (fun _ j => 0 < j)) (g := fun i j => i % j)) mild_need (ev_op (opx_I (C := CMulX) (g := fun i j => i * j)) mild_need (ev_var (i := 4) (x := root_) rfl) (ev_var (i := 6) (x := helper_) rfl)) (ev_var (i := 1) (x := prime_) rfl)) : EvX K (W0 E) [some (.im (toD a_)), some (.im (toD prime_)), some (.im (toD odd_)), some (.im (toD twos_)), some (.im (toD root_)), some (.im (toD rest_)), some (.im (toD helper_)), some (.im (toD level_))] _ _)
        refine blk_seq (blk_set (i := 4) L2 trivial hs_ fun root_ => ?_)
        show Blk _ _ _ _ _ [some (.im (toD a_)), some (.im (toD prime_)), some (.im (toD odd_)), some (.im (toD twos_)), some (.im (toD root_)), some (.im (toD rest_)), some (.im (toD helper_)), some (.im (toD level_))] _
        try refine Blk.nx ?_
        have hs_ := ((ev_op (opx_I (C := (fun _ j => 0 < j)) (g := fun i j => i % j)) mild_need (ev_op (opx_I (C := CMulX) (g := fun i j => i * j)) mild_need (ev_op (opx_I (C := CMulX) (g := fun i j => i * j)) mild_need (ev_var (i := 5) (x := rest_) rfl) (ev_var (i := 6) (x := helper_) rfl)) (ev_var (i := 6) (x := helper_) rfl)) (ev_var (i := 1) (x := prime_) rfl)) : EvX K (W0 E) [some (.im (toD a_)), some (.im (toD prime_)), some (.im (toD odd_)), some (.im (toD twos_)), some (.im (toD root_)), some (.im (toD rest_)), some (.im (toD helper_)), some (.im (toD level_))] _ _)
        refine blk_set (i := 5) L2 trivial hs_ fun rest_ => ?_
        show Blk _ _ _ _ _ [some (.im (toD a_)), some (.im (toD prime_)), some (.im (toD odd_)), some (.im (toD twos_)), some (.im (toD root_)), some (.im (toD rest_)), some (.im (toD helper_)), some (.im (toD level_))] _
        try refine Blk.nx ?_
        exact (hk3 (root_, rest_)).weak (.same (.same (.same (.same (.same (.same (.same (.same .nil))))))))
      · intro hk3
        refine blk_nil ?_
        try refine Blk.nx ?_
        exact (hk3 (root_, rest_)).weak (.same (.same (.same (.same (.same (.same (.same (.same .nil))))))))
    · rintro ⟨root_, rest_, helper_⟩
      show Blk _ _ _ _ _ [some (.im (toD a_)), some (.im (toD prime_)), some (.im (toD odd_)), some (.im (toD twos_)), some (.im (toD root_)), some (.im (toD rest_)), some (.im (toD helper_)), none] ((m_u_root_of_square_k4) (root_, rest_, helper_))
      unfold m_u_root_of_square_k4
      try refine Blk.nx ?_
      have hr_ := ((ev_var (i := 4) (x := root_) rfl) : EvX K (W0 E) [some (.im (toD a_)), some (.im (toD prime_)), some (.im (toD odd_)), some (.im (toD twos_)), some (.im (toD root_)), some (.im (toD rest_)), some (.im (toD helper_)), none] _ _)
      exact blk_ret L trivial hr_
noncomputable def m_square_root (a_ : Int) (prime_ : Int) : Res (Option Int) :=
  ((((Res.ok a_)).bind fun a409 => (((Res.ok prime_)).bind fun a411 => (Res.ok ()).bind fun a412 => Res.ok (a411, a412)).bind fun a410 => Res.ok (a409, a410)).bind fun p408 => m_square_class p408.1 p408.2.1).bind fun (kind_ : Int) =>   (((Res.ok kind_)).bind fun (t414 : Int) => (((Res.ok (1 : Int))).bind fun (t413 : Int) => Res.ok (-t413)).bind fun (t415 : Int) => Res.ok (decide (t414 = t415))).bind fun b => cond b   ((Res.ok (none : (Option Int))))   ((((Res.ok kind_)).bind fun (t416 : Int) => ((Res.ok (0 : Int))).bind fun (t417 : Int) => Res.ok (decide (t416 = t417))).bind fun b => cond b   (((Res.ok (0 : Int))).bind fun (x : Int) => Res.ok (some x))   (((((Res.ok a_)).bind fun a419 => (((Res.ok prime_)).bind fun a421 => (Res.ok ()).bind fun a422 => Res.ok (a421, a422)).bind fun a420 => Res.ok (a419, a420)).bind fun p418 => m_u_root_of_square p418.1 p418.2.1).bind fun (root_ : Int) =>   ((((Res.ok root_)).bind fun a426 => ((((Res.ok prime_)).bind fun (t423 : Int) => ((Res.ok root_)).bind fun (t424 : Int) => Res.ok (t423 - t424)).bind fun a428 => (Res.ok ()).bind fun a429 => Res.ok (a428, a429)).bind fun a427 => Res.ok (a426, a427)).bind fun p425 => Res.ok (min p425.1 p425.2.1)).bind fun (x : Int) => Res.ok (some x)))
theorem ok_square_root {P : Program} {w : World} {K : PySem.W.Frag} {mg : Str → Option Value} {base : Heap} (T : Facts K mg) {fd : FuncData} (F : FnP K "square_root" "square_root" s_square_root (He.ga K "square_root") fd) :
    FnOk P w K mg base (L2.CX P w) 5 (He.ga K "square_root") fd ["a", "prime"] (spM K (fun (p : Int × Int × Unit) => m_square_root p.1 p.2.1)) := by
  obtain ⟨fd_u_root_of_square, F_u_root_of_square⟩ := T.d_u_root_of_square
  have G_u_root_of_square := ok_u_root_of_square (P := P) (w := w) (base := base) T F_u_root_of_square
  have b_u_root_of_square : Binds K fd_u_root_of_square ["a", "prime"] [] := F_u_root_of_square.bindsN fun _ _ _ _ _ _ us hl => match us, hl with | [_, _], _ => rfl
  obtain ⟨fd_square_class, F_square_class⟩ := T.d_square_class
  have G_square_class := ok_square_class (P := P) (w := w) (base := base) T F_square_class
  have b_square_class : Binds K fd_square_class ["a", "prime"] [] := F_square_class.bindsN fun _ _ _ _ _ _ us hl => match us, hl with | [_, _], _ => rfl
  refine fn_ok F sc_square_root (fun y => rfl) (fun cdv A outer s H E hr => ?_)
  refine ⟨_, (pss_cons (ps_set (i := 2) sc_square_root.nd rfl (Or.inl rfl) (pe_callS G_square_class (hr.mono (by decide)) rfl T.g_square_class F_square_class.kp b_square_class (fun σ => passAt (takes_of rfl rfl rfl rfl) σ) (pa_cons (pv 0) (pa_cons (pv 1) pa_nil)))) (pss_cons (ps_if (pt_cmpR op_eq (pv 2) (pe_un un_neg pe_int) (nomark _)) (pss_one (ps_ret pe_non)) pss_nil) (pss_cons (ps_if (pt_cmpR op_eq (pv 2) pe_int (nomark _)) (pss_one (ps_ret pe_int)) pss_nil) (pss_cons (ps_set (i := 3) sc_square_root.nd rfl (Or.inl rfl) (pe_callS G_u_root_of_square (hr.mono (by decide)) rfl T.g_u_root_of_square F_u_root_of_square.kp b_u_root_of_square (fun σ => passAt (takes_of rfl rfl rfl rfl) σ) (pa_cons (pv 0) (pa_cons (pv 1) pa_nil)))) (pss_one (ps_ret (pe_callB (call_min2 rfl) (by rfl) T.n_min (by decide +kernel) (pa_cons (pv 3) (pa_cons (pe_op op_sub (pv 1) (pv 3)) pa_nil))))))))), ?_⟩
  rintro ⟨a_, prime_, ⟨⟩⟩ F0 H0 Q KP L
  show Blk K F0 H0 KP _ [some (.im (toD a_)), some (.im (toD prime_)), none, none] (m_square_root a_ prime_)
  unfold m_square_root
  have hs_ := ((ev_call (f := (fun (p : Int × Int × Unit) => m_square_class p.1 p.2.1)) (ea_cons (ev_var (i := 0) (x := a_) rfl) (ea_cons (ev_var (i := 1) (x := prime_) rfl) ea_nil))) : EvX K (W0 E) [some (.im (toD a_)), some (.im (toD prime_)), none, none] _ _)
  refine blk_seq (blk_set (i := 2) L trivial hs_ fun kind_ => ?_)
  show Blk _ _ _ _ _ [some (.im (toD a_)), some (.im (toD prime_)), some (.im (toD kind_)), none] _
  try refine Blk.nx ?_
  have ht_ := ((et_test (ev_op opx_eqI mild_ok (ev_var (i := 2) (x := kind_) rfl) (ev_un (g := fun i => -i) (ev_int (i := 1))))) : EvT K (W0 E) [some (.im (toD a_)), some (.im (toD prime_)), some (.im (toD kind_)), none] _ _)
  refine blk_seq (blk_if2 L trivial ht_ ?_ ?_)
  · have hr_ := ((ev_noneO (α := Int)) : EvX K (W0 E) [some (.im (toD a_)), some (.im (toD prime_)), some (.im (toD kind_)), none] _ _)
    exact blk_ret L trivial hr_
  · refine blk_nil ?_
    try refine Blk.nx ?_
    have ht_ := ((et_test (ev_op opx_eqI mild_ok (ev_var (i := 2) (x := kind_) rfl) (ev_int (i := 0)))) : EvT K (W0 E) [some (.im (toD a_)), some (.im (toD prime_)), some (.im (toD kind_)), none] _ _)
    refine blk_seq (blk_if2 L trivial ht_ ?_ ?_)
    · have hr_ := ((ev_as (ev_int (i := 0)) some (fun _ => rfl) rfl) : EvX K (W0 E) [some (.im (toD a_)), some (.im (toD prime_)), some (.im (toD kind_)), none] _ _)
      exact blk_ret L trivial hr_
    · refine blk_nil ?_
      try refine Blk.nx ?_
      have hs_ := ((ev_call (f := (fun (p : Int × Int × Unit) => m_u_root_of_square p.1 p.2.1)) (ea_cons (ev_var (i := 0) (x := a_) rfl) (ea_cons (ev_var (i := 1) (x := prime_) rfl) ea_nil))) : EvX K (W0 E) [some (.im (toD a_)), some (.im (toD prime_)), some (.im (toD kind_)), none] _ _)
      refine blk_seq (blk_set (i := 3) L trivial hs_ fun root_ => ?_)
      show Blk _ _ _ _ _ [some (.im (toD a_)), some (.im (toD prime_)), some (.im (toD kind_)), some (.im (toD root_))] _
      try refine Blk.nx ?_
      have hr_ := ((ev_as (ev_cb cx_min (fun _ _ h => nomatch h) (ea_cons (ev_var (i := 3) (x := root_) rfl) (ea_cons (ev_op (opx_I0 (g := fun i j => i - j)) mild_ok (ev_var (i := 1) (x := prime_) rfl) (ev_var (i := 3) (x := root_) rfl)) ea_nil))) some (fun _ => rfl) rfl) : EvX K (W0 E) [some (.im (toD a_)), some (.im (toD prime_)), some (.im (toD kind_)), some (.im (toD root_))] _ _)
      exact blk_ret L trivial hr_
noncomputable def m_root_with_parity (a_ : Int) (prime_ : Int) (odd_ : Bool) : Res (Option Int) :=
  ((((Res.ok a_)).bind fun a431 => (((Res.ok prime_)).bind fun a433 => (Res.ok ()).bind fun a434 => Res.ok (a433, a434)).bind fun a432 => Res.ok (a431, a432)).bind fun p430 => m_square_root p430.1 p430.2.1).bind fun (root_ : (Option Int)) =>   ((((Res.ok root_)).bind fun (t435 : (Option Int)) => ((Res.ok ())).bind fun (t436 : Unit) => Res.ok (toD t435).isNon).bind fun b444 => cond b444 (Res.ok true) ((((((Res.ok root_)).bind fun (x : (Option Int)) => Res.ok (toD x)).bind D.asInt).bind fun (t437 : Int) => ((Res.ok (2 : Int))).bind fun (t438 : Int) => Res.ok (t437 % t438)).bind fun (t442 : Int) => ((((Res.ok odd_)).bind fun a440 => (Res.ok ()).bind fun a441 => Res.ok (a440, a441)).bind fun p439 => Res.ok (if p439.1 = true then (1 : Int) else 0)).bind fun (t443 : Int) => Res.ok (decide (t442 = t443)))).bind fun b => cond b   ((Res.ok root_))   ((((Res.ok root_)).bind fun (t445 : (Option Int)) => ((Res.ok (0 : Int))).bind fun (t446 : Int) => Res.need ((toD t445).okq = true ∧ (toD t446).okq = true) (Res.ok (!pyEq (toD t445) (toD t446)))).bind fun b449 => cond b449 ((((Res.ok prime_)).bind fun (t447 : Int) => ((((Res.ok root_)).bind fun (x : (Option Int)) => Res.ok (toD x)).bind D.asInt).bind fun (t448 : Int) => Res.ok (t447 - t448)).bind fun (x : Int) => Res.ok (some x)) ((Res.ok (none : (Option Int)))))
theorem ok_root_with_parity {P : Program} {w : World} {K : PySem.W.Frag} {mg : Str → Option Value} {base : Heap} (T : Facts K mg) {fd : FuncData} (F : FnP K "root_with_parity" "root_with_parity" s_root_with_parity (He.ga K "root_with_parity") fd) :
    FnOk P w K mg base (L2.CX P w) 6 (He.ga K "root_with_parity") fd ["a", "prime", "odd"] (spM K (fun (p : Int × Int × Bool × Unit) => m_root_with_parity p.1 p.2.1 p.2.2.1)) := by
  obtain ⟨fd_square_root, F_square_root⟩ := T.d_square_root
  have G_square_root := ok_square_root (P := P) (w := w) (base := base) T F_square_root
  have b_square_root : Binds K fd_square_root ["a", "prime"] [] := F_square_root.bindsN fun _ _ _ _ _ _ us hl => match us, hl with | [_, _], _ => rfl
  refine fn_ok F sc_root_with_parity (fun y => rfl) (fun cdv A outer s H E hr => ?_)
  refine ⟨_, (pss_cons (ps_set (i := 3) sc_root_with_parity.nd rfl (Or.inl rfl) (pe_callS G_square_root (hr.mono (by decide)) rfl T.g_square_root F_square_root.kp b_square_root (fun σ => passAt (takes_of rfl rfl rfl rfl) σ) (pa_cons (pv 0) (pa_cons (pv 1) pa_nil)))) (pss_cons (ps_if (PW.pt (pw_or (pt_cmpR op_isN (pv 3) pe_non (nomark _)) (pw_or1 (pt_cmpR op_eq (pe_op op_mod (pv 3) pe_int) (pe_callTy call_int1 (by rfl) T.n_int (by decide +kernel) (pa_cons (pv 2) pa_nil)) (nomark _))))) (pss_one (ps_ret (pv 3))) pss_nil) (pss_one (ps_ret (pe_ifExp (pt_cmpR (op_neD (Room.units hr)) (pv 3) pe_int (nomark _)) (pe_op op_sub (pv 1) (pv 3)) pe_non))))), ?_⟩
  rintro ⟨a_, prime_, odd_, ⟨⟩⟩ F0 H0 Q KP L
  show Blk K F0 H0 KP _ [some (.im (toD a_)), some (.im (toD prime_)), some (.im (toD odd_)), none] (m_root_with_parity a_ prime_ odd_)
  unfold m_root_with_parity
  have hs_ := ((ev_call (f := (fun (p : Int × Int × Unit) => m_square_root p.1 p.2.1)) (ea_cons (ev_var (i := 0) (x := a_) rfl) (ea_cons (ev_var (i := 1) (x := prime_) rfl) ea_nil))) : EvX K (W0 E) [some (.im (toD a_)), some (.im (toD prime_)), some (.im (toD odd_)), none] _ _)
  refine blk_seq (blk_set (i := 3) L trivial hs_ fun root_ => ?_)
  show Blk _ _ _ _ _ [some (.im (toD a_)), some (.im (toD prime_)), some (.im (toD odd_)), some (.im (toD root_))] _
  try refine Blk.nx ?_
  have ht_ := ((et_or (et_test (ev_op opx_isN mild_ok (ev_var (i := 3) (x := root_) rfl) ev_non)) (et_test (ev_op opx_eqI mild_ok (ev_opI (C := (fun _ j => 0 < j)) (g := fun i j => i % j) (fun x y _ h => by cases h; (show (0 : Int) < _; decide)) (ev_cast (f := D.asInt) asInt_ok asInt_x (ev_as (ev_var (i := 3) (x := root_) rfl) toD (fun _ => rfl) rfl)) (ev_int (i := 2))) (ev_cb cx_intB (fun _ _ h => nomatch h) (ea_cons (ev_var (i := 2) (x := odd_) rfl) ea_nil))))) : EvT K (W0 E) [some (.im (toD a_)), some (.im (toD prime_)), some (.im (toD odd_)), some (.im (toD root_))] _ _)
  refine blk_seq (blk_if2 L trivial ht_ ?_ ?_)
  · have hr_ := ((ev_var (i := 3) (x := root_) rfl) : EvX K (W0 E) [some (.im (toD a_)), some (.im (toD prime_)), some (.im (toD odd_)), some (.im (toD root_))] _ _)
    exact blk_ret L trivial hr_
  · refine blk_nil ?_
    try refine Blk.nx ?_
    have hr_ := ((ev_if (et_test (ev_op opx_neD mild_need (ev_var (i := 3) (x := root_) rfl) (ev_int (i := 0)))) (ev_as (ev_op (opx_I0 (g := fun i j => i - j)) mild_ok (ev_var (i := 1) (x := prime_) rfl) (ev_cast (f := D.asInt) asInt_ok asInt_x (ev_as (ev_var (i := 3) (x := root_) rfl) toD (fun _ => rfl) rfl))) some (fun _ => rfl) rfl) (ev_noneO (α := Int))) : EvX K (W0 E) [some (.im (toD a_)), some (.im (toD prime_)), some (.im (toD odd_)), some (.im (toD root_))] _ _)
    exact blk_ret L trivial hr_
noncomputable def m_Curve_init (prime_ : Int) (a_ : Int) (b_ : Int) : Res O_Curve :=
  ((((Res.ok prime_)).bind fun (t450 : Int) => ((Res.ok (5 : Int))).bind fun (t451 : Int) => Res.ok (decide (t450 < t451))).bind fun b456 => cond b456 (Res.ok true) ((((Res.ok prime_)).bind fun (t452 : Int) => ((Res.ok (2 : Int))).bind fun (t453 : Int) => Res.ok (t452 % t453)).bind fun (t454 : Int) => ((Res.ok (0 : Int))).bind fun (t455 : Int) => Res.ok (decide (t454 = t455)))).bind fun b => cond b   (Res.exc "OutOfRange")   (((Res.ok prime_)).bind fun (sf_prime : Int) =>   (((Res.ok a_)).bind fun (t457 : Int) => ((Res.ok prime_)).bind fun (t458 : Int) => Res.need (0 < t458) (Res.ok (t457 % t458))).bind fun (sf_a : Int) =>   (((Res.ok b_)).bind fun (t459 : Int) => ((Res.ok prime_)).bind fun (t460 : Int) => Res.need (0 < t460) (Res.ok (t459 % t460))).bind fun (sf_b : Int) =>   ((((((Res.ok (4 : Int))).bind fun (t463 : Int) => (((Res.ok sf_a)).bind fun (t461 : Int) => ((Res.ok (3 : Int))).bind fun (t462 : Int) => Res.need (CPowX t461 t462) (Res.ok (t461 ^ t462.toNat))).bind fun (t464 : Int) => Res.ok (t463 * t464)).bind fun (t469 : Int) => (((Res.ok (27 : Int))).bind fun (t467 : Int) => (((Res.ok sf_b)).bind fun (t465 : Int) => ((Res.ok (2 : Int))).bind fun (t466 : Int) => Res.need (CPowX t465 t466) (Res.ok (t465 ^ t466.toNat))).bind fun (t468 : Int) => Res.ok (t467 * t468)).bind fun (t470 : Int) => Res.ok (t469 + t470)).bind fun (t471 : Int) => ((Res.ok prime_)).bind fun (t472 : Int) => Res.need (0 < t472) (Res.ok (t471 % t472))).bind fun (t473 : Int) => ((Res.ok (0 : Int))).bind fun (t474 : Int) => Res.ok (decide (t473 = t474))).bind fun b => cond b   (Res.exc "Refused")   (Res.ok (O_Curve.mk sf_prime sf_a sf_b)))
theorem ok_Curve_init {P : Program} {w : World} {K : PySem.W.Frag} {mg : Str → Option Value} {base : Heap} (T : Facts K mg) {fd : FuncData} (F : FnP K "__init__" "Curve.__init__" s_Curve_init (He.ma K (He.ga K "Curve") "__init__") fd) :
    FnOk P w K mg base (L2.CX P w) 1 (He.ma K (He.ga K "Curve") "__init__") fd ["self", "prime", "a", "b"] (spI K "Curve" (fun (p : Int × Int × Int × Unit) => m_Curve_init p.1 p.2.1 p.2.2.1)) := by
  refine fn_okI (c := "Curve") F sc_Curve_init (fun y => rfl) (fun cdv A outer s H E hr => ?_)
  refine ⟨_, (pss_cons (ps_if (PW.pt (pw_or (pt_cmpR op_lt (pv 1) pe_int (nomark _)) (pw_or1 (pt_cmpR op_eq (pe_op op_mod (pv 1) pe_int) pe_int (nomark _))))) (pss_one (ps_raise rfl (takes_of rfl rfl rfl rfl) (pmk_own PySem.F.excBase_ValueError T.x_OutOfRange T.g_OutOfRange T.k_OutOfRange (raises_own T.b_OutOfRange T.t_OutOfRange) rfl))) pss_nil) (pss_cons (ps_fld (pv 0) (pv 1) rfl) (pss_cons (ps_fld (pv 0) (pe_op op_mod (pv 2) (pv 1)) rfl) (pss_cons (ps_fld (pv 0) (pe_op op_mod (pv 3) (pv 1)) rfl) (pss_one (ps_if (pt_cmpR op_eq (pe_op op_mod (pe_op op_add (pe_op op_mul pe_int (pe_op op_powX (pe_fld (pv 0) rfl) pe_int)) (pe_op op_mul pe_int (pe_op op_powX (pe_fld (pv 0) rfl) pe_int))) (pv 1)) pe_int (nomark _)) (pss_one (ps_raise rfl (takes_of rfl rfl rfl rfl) (pmk_own PySem.F.excBase_ValueError T.x_Refused T.g_Refused T.k_Refused (raises_own T.b_Refused T.t_Refused) rfl))) pss_nil)))))), ?_⟩
  rintro ⟨prime_, a_, b_, ⟨⟩⟩ p_ F0 H0 Q KP L
  show Blk K F0 H0 KP _ [some (.oi (some p_) "Curve" [] []), some (.im (toD prime_)), some (.im (toD a_)), some (.im (toD b_))] (m_Curve_init prime_ a_ b_)
  unfold m_Curve_init
  have ht_ := ((et_or (et_test (ev_op (opx_B0 (g := fun i j => decide (i < j))) mild_ok (ev_var (i := 1) (x := prime_) rfl) (ev_int (i := 5)))) (et_test (ev_op opx_eqI mild_ok (ev_opI (C := (fun _ j => 0 < j)) (g := fun i j => i % j) (fun x y _ h => by cases h; (show (0 : Int) < _; decide)) (ev_var (i := 1) (x := prime_) rfl) (ev_int (i := 2))) (ev_int (i := 0))))) : EvT K (W0 E) [some (.oi (some p_) "Curve" [] []), some (.im (toD prime_)), some (.im (toD a_)), some (.im (toD b_))] _ _)
  refine blk_seq (blk_if2 L trivial ht_ ?_ ?_)
  · exact blk_raise L trivial
  · refine blk_nil ?_
    try refine Blk.nx ?_
    have hs_ := ((ev_var (i := 1) (x := prime_) rfl) : EvX K (W0 E) [some (.oi (some p_) "Curve" [] []), some (.im (toD prime_)), some (.im (toD a_)), some (.im (toD b_))] _ _)
    refine blk_seq (blk_fldN (i := 0) L trivial hs_ rfl T.cl_Curve T.nf_Curve_prime (by decide +kernel) (by decide) fun sf_prime => ?_)
    show Blk _ _ _ _ _ [some (.oi (some p_) "Curve" ["prime"] [toD sf_prime]), some (.im (toD prime_)), some (.im (toD a_)), some (.im (toD b_))] _
    try refine Blk.nx ?_
    have hs_ := ((ev_op (opx_I (C := (fun _ j => 0 < j)) (g := fun i j => i % j)) mild_need (ev_var (i := 2) (x := a_) rfl) (ev_var (i := 1) (x := prime_) rfl)) : EvX K (W0 E) [some (.oi (some p_) "Curve" ["prime"] [toD sf_prime]), some (.im (toD prime_)), some (.im (toD a_)), some (.im (toD b_))] _ _)
    refine blk_seq (blk_fldN (i := 0) L trivial hs_ rfl T.cl_Curve T.nf_Curve_a (by decide +kernel) (by decide) fun sf_a => ?_)
    show Blk _ _ _ _ _ [some (.oi (some p_) "Curve" ["prime", "a"] [toD sf_prime, toD sf_a]), some (.im (toD prime_)), some (.im (toD a_)), some (.im (toD b_))] _
    try refine Blk.nx ?_
    have hs_ := ((ev_op (opx_I (C := (fun _ j => 0 < j)) (g := fun i j => i % j)) mild_need (ev_var (i := 3) (x := b_) rfl) (ev_var (i := 1) (x := prime_) rfl)) : EvX K (W0 E) [some (.oi (some p_) "Curve" ["prime", "a"] [toD sf_prime, toD sf_a]), some (.im (toD prime_)), some (.im (toD a_)), some (.im (toD b_))] _ _)
    refine blk_seq (blk_fldN (i := 0) L trivial hs_ rfl T.cl_Curve T.nf_Curve_b (by decide +kernel) (by decide) fun sf_b => ?_)
    show Blk _ _ _ _ _ [some (.oi (some p_) "Curve" ["prime", "a", "b"] [toD sf_prime, toD sf_a, toD sf_b]), some (.im (toD prime_)), some (.im (toD a_)), some (.im (toD b_))] _
    try refine Blk.nx ?_
    have ht_ := ((et_test (ev_op opx_eqI mild_ok (ev_op (opx_I (C := (fun _ j => 0 < j)) (g := fun i j => i % j)) mild_need (ev_op (opx_I0 (g := fun i j => i + j)) mild_ok (ev_opI (C := CMul) (g := fun i j => i * j) (fun x y h _ => by cases h; exact .inl (by decide)) (ev_int (i := 4)) (ev_op (opx_I (C := CPowX) (g := fun i j => i ^ j.toNat)) mild_need (ev_fldO (i := 0) (j := 1) (x := sf_a) rfl T.cl_Curve T.nf_Curve_a (by decide +kernel) rfl) (ev_int (i := 3)))) (ev_opI (C := CMul) (g := fun i j => i * j) (fun x y h _ => by cases h; exact .inl (by decide)) (ev_int (i := 27)) (ev_op (opx_I (C := CPowX) (g := fun i j => i ^ j.toNat)) mild_need (ev_fldO (i := 0) (j := 2) (x := sf_b) rfl T.cl_Curve T.nf_Curve_b (by decide +kernel) rfl) (ev_int (i := 2))))) (ev_var (i := 1) (x := prime_) rfl)) (ev_int (i := 0)))) : EvT K (W0 E) [some (.oi (some p_) "Curve" ["prime", "a", "b"] [toD sf_prime, toD sf_a, toD sf_b]), some (.im (toD prime_)), some (.im (toD a_)), some (.im (toD b_))] _ _)
    refine blk_if2 L trivial ht_ ?_ ?_
    · exact blk_raise L trivial
    · refine blk_nil ?_
      try refine Blk.nx ?_
      exact blk_finI (i := 0) L rfl rfl
noncomputable def m_Curve_u_right_side (self_ : O_Curve) (x_ : Int) : Res Int :=
  (((((Res.ok x_)).bind fun (t475 : Int) => ((Res.ok (3 : Int))).bind fun (t476 : Int) => Res.need (CPowX t475 t476) (Res.ok (t475 ^ t476.toNat))).bind fun (t480 : Int) => ((((Res.ok self_)).bind fun (t477 : O_Curve) => Res.ok t477.f_a).bind fun (t478 : Int) => ((Res.ok x_)).bind fun (t479 : Int) => Res.need (CMulX t478 t479) (Res.ok (t478 * t479))).bind fun (t481 : Int) => Res.ok (t480 + t481)).bind fun (t483 : Int) => (((Res.ok self_)).bind fun (t482 : O_Curve) => Res.ok t482.f_b).bind fun (t484 : Int) => Res.ok (t483 + t484)).bind fun (t486 : Int) => (((Res.ok self_)).bind fun (t485 : O_Curve) => Res.ok t485.f_prime).bind fun (t487 : Int) => Res.need (0 < t487) (Res.ok (t486 % t487))
theorem ok_Curve_u_right_side {P : Program} {w : World} {K : PySem.W.Frag} {mg : Str → Option Value} {base : Heap} (T : Facts K mg) {fd : FuncData} (F : FnP K "_right_side" "Curve._right_side" s_Curve_u_right_side (He.ma K (He.ga K "Curve") "_right_side") fd) :
    FnOk P w K mg base (L2.CX P w) 1 (He.ma K (He.ga K "Curve") "_right_side") fd ["self", "x"] (spM K (fun (p : O_Curve × Int × Unit) => m_Curve_u_right_side p.1 p.2.1)) := by
  refine fn_ok F sc_Curve_u_right_side (fun y => rfl) (fun cdv A outer s H E hr => ?_)
  refine ⟨_, (pss_one (ps_ret (pe_op op_mod (pe_op op_add (pe_op op_add (pe_op op_powX (pv 1) pe_int) (pe_op op_mulX (pe_fld (pv 0) rfl) (pv 1))) (pe_fld (pv 0) rfl)) (pe_fld (pv 0) rfl)))), ?_⟩
  rintro ⟨self_, x_, ⟨⟩⟩ F0 H0 Q KP L
  show Blk K F0 H0 KP _ [some (.im (toD self_)), some (.im (toD x_))] (m_Curve_u_right_side self_ x_)
  unfold m_Curve_u_right_side
  have hr_ := ((ev_op (opx_I (C := (fun _ j => 0 < j)) (g := fun i j => i % j)) mild_need (ev_op (opx_I0 (g := fun i j => i + j)) mild_ok (ev_op (opx_I0 (g := fun i j => i + j)) mild_ok (ev_op (opx_I (C := CPowX) (g := fun i j => i ^ j.toNat)) mild_need (ev_var (i := 1) (x := x_) rfl) (ev_int (i := 3))) (ev_op (opx_I (C := CMulX) (g := fun i j => i * j)) mild_need (ev_fld (g := fun (x : O_Curve) => x.f_a) (c := "Curve") (ks := ["prime", "a", "b"]) (j := 1) (ev_var (i := 0) (x := self_) rfl) T.cl_Curve T.nf_Curve_a (by decide +kernel) (fun _ => ⟨_, rfl, rfl⟩)) (ev_var (i := 1) (x := x_) rfl))) (ev_fld (g := fun (x : O_Curve) => x.f_b) (c := "Curve") (ks := ["prime", "a", "b"]) (j := 2) (ev_var (i := 0) (x := self_) rfl) T.cl_Curve T.nf_Curve_b (by decide +kernel) (fun _ => ⟨_, rfl, rfl⟩))) (ev_fld (g := fun (x : O_Curve) => x.f_prime) (c := "Curve") (ks := ["prime", "a", "b"]) (j := 0) (ev_var (i := 0) (x := self_) rfl) T.cl_Curve T.nf_Curve_prime (by decide +kernel) (fun _ => ⟨_, rfl, rfl⟩))) : EvX K (W0 E) [some (.im (toD self_)), some (.im (toD x_))] _ _)
  exact blk_ret L trivial hr_
noncomputable def m_Curve_has (self_ : O_Curve) (point_ : D) : Res Bool :=
  (((Res.ok point_)).bind fun (t488 : D) => ((Res.ok ())).bind fun (t489 : Unit) => Res.ok (toD t488).isNon).bind fun b => cond b   ((Res.ok true))   ((((((Res.ok point_)).bind fun a492 => ((((Res.ok self_)).bind fun (t490 : O_Curve) => Res.ok t490.f_prime).bind fun a494 => (Res.ok ()).bind fun a495 => Res.ok (a494, a495)).bind fun a493 => Res.ok (a492, a493)).bind fun p491 => m_is_residue_pair p491.1 p491.2.1).bind fun (t496 : Bool) => Res.ok (!t496)).bind fun b => cond b   ((Res.ok false))   (((((((((Res.ok point_)).bind D.asTu).bind fun (t497 : (Tu D)) => ((Res.ok (1 : Int))).bind fun (t498 : Int) => idx (t497).xs t498).bind D.asInt).bind fun (t499 : Int) => ((Res.ok (2 : Int))).bind fun (t500 : Int) => Res.need (CPowX t499 t500) (Res.ok (t499 ^ t500.toNat))).bind fun (t507 : Int) => (((Res.ok self_)).bind fun (o503 : O_Curve) => ((((((Res.ok point_)).bind D.asTu).bind fun (t501 : (Tu D)) => ((Res.ok (0 : Int))).bind fun (t502 : Int) => idx (t501).xs t502).bind D.asInt).bind fun a505 => (Res.ok ()).bind fun a506 => Res.ok (a505, a506)).bind fun p504 => m_Curve_u_right_side o503 p504.1).bind fun (t508 : Int) => Res.ok (t507 - t508)).bind fun (t510 : Int) => (((Res.ok self_)).bind fun (t509 : O_Curve) => Res.ok t509.f_prime).bind fun (t511 : Int) => Res.need (0 < t511) (Res.ok (t510 % t511))).bind fun (t512 : Int) => ((Res.ok (0 : Int))).bind fun (t513 : Int) => Res.ok (decide (t512 = t513))))
theorem ok_Curve_has {P : Program} {w : World} {K : PySem.W.Frag} {mg : Str → Option Value} {base : Heap} (T : Facts K mg) {fd : FuncData} (F : FnP K "has" "Curve.has" s_Curve_has (He.ma K (He.ga K "Curve") "has") fd) :
    FnOk P w K mg base (L2.CX P w) 4 (He.ma K (He.ga K "Curve") "has") fd ["self", "point"] (spM K (fun (p : O_Curve × D × Unit) => m_Curve_has p.1 p.2.1)) := by
  obtain ⟨fd_Curve_u_right_side, F_Curve_u_right_side⟩ := T.d_Curve_u_right_side
  have G_Curve_u_right_side := ok_Curve_u_right_side (P := P) (w := w) (base := base) T F_Curve_u_right_side
  have b_Curve_u_right_side : Binds K fd_Curve_u_right_side ["self", "x"] [] := F_Curve_u_right_side.bindsN fun _ _ _ _ _ _ us hl => match us, hl with | [_, _], _ => rfl
  obtain ⟨fd_is_residue_pair, F_is_residue_pair⟩ := T.d_is_residue_pair
  have G_is_residue_pair := ok_is_residue_pair (P := P) (w := w) (base := base) T F_is_residue_pair
  have b_is_residue_pair : Binds K fd_is_residue_pair ["value", "modulus"] [] := F_is_residue_pair.bindsN fun _ _ _ _ _ _ us hl => match us, hl with | [_, _], _ => rfl
  refine fn_ok F sc_Curve_has (fun y => rfl) (fun cdv A outer s H E hr => ?_)
  refine ⟨_, (pss_cons (ps_if (pt_cmpR op_isN (pv 1) pe_non (nomark _)) (pss_one (ps_ret pe_bl)) pss_nil) (pss_cons (ps_if (pt_not (pt_val (pe_callS G_is_residue_pair (hr.mono (by decide)) rfl T.g_is_residue_pair F_is_residue_pair.kp b_is_residue_pair (fun σ => passAt (takes_of rfl rfl rfl rfl) σ) (pa_cons (pv 1) (pa_cons (pe_fld (pv 0) rfl) pa_nil))))) (pss_one (ps_ret pe_bl)) pss_nil) (pss_one (ps_ret (pe_cmpR op_eq (pe_op op_mod (pe_op op_sub (pe_op op_powX (pe_ix (cr_ixT rfl) (pv 1) pe_int (fun _ _ => rfl)) pe_int) (pe_methQ (pv 0) T.cl_Curve T.mt_Curve_u_right_side G_Curve_u_right_side (hr.mono (by decide)) b_Curve_u_right_side (fun σ => passAt (takes_of rfl rfl rfl rfl) σ) (pa_cons (pe_ix (cr_ixT rfl) (pv 1) pe_int (fun _ _ => rfl)) pa_nil))) (pe_fld (pv 0) rfl)) pe_int (nomark _)))))), ?_⟩
  rintro ⟨self_, point_, ⟨⟩⟩ F0 H0 Q KP L
  show Blk K F0 H0 KP _ [some (.im (toD self_)), some (.im (toD point_))] (m_Curve_has self_ point_)
  unfold m_Curve_has
  have ht_ := ((et_test (ev_op opx_isN mild_ok (ev_var (i := 1) (x := point_) rfl) ev_non)) : EvT K (W0 E) [some (.im (toD self_)), some (.im (toD point_))] _ _)
  refine blk_seq (blk_if2 L trivial ht_ ?_ ?_)
  · have hr_ := ((ev_bl (b := true)) : EvX K (W0 E) [some (.im (toD self_)), some (.im (toD point_))] _ _)
    exact blk_ret L trivial hr_
  · refine blk_nil ?_
    try refine Blk.nx ?_
    have ht_ := ((et_not (et_B (ev_call (f := (fun (p : D × Int × Unit) => m_is_residue_pair p.1 p.2.1)) (ea_cons (ev_var (i := 1) (x := point_) rfl) (ea_cons (ev_fld (g := fun (x : O_Curve) => x.f_prime) (c := "Curve") (ks := ["prime", "a", "b"]) (j := 0) (ev_var (i := 0) (x := self_) rfl) T.cl_Curve T.nf_Curve_prime (by decide +kernel) (fun _ => ⟨_, rfl, rfl⟩)) ea_nil))))) : EvT K (W0 E) [some (.im (toD self_)), some (.im (toD point_))] _ _)
    refine blk_seq (blk_if2 L trivial ht_ ?_ ?_)
    · have hr_ := ((ev_bl (b := false)) : EvX K (W0 E) [some (.im (toD self_)), some (.im (toD point_))] _ _)
      exact blk_ret L trivial hr_
    · refine blk_nil ?_
      try refine Blk.nx ?_
      have hr_ := ((ev_op opx_eqI mild_ok (ev_op (opx_I (C := (fun _ j => 0 < j)) (g := fun i j => i % j)) mild_need (ev_op (opx_I0 (g := fun i j => i - j)) mild_ok (ev_op (opx_I (C := CPowX) (g := fun i j => i ^ j.toNat)) mild_need (ev_cast (f := D.asInt) asInt_ok asInt_x (ev_op opx_ixT (fun x y => idx_mild x.xs y) (ev_cast (f := D.asTu) asTu_ok asTu_x (ev_var (i := 1) (x := point_) rfl)) (ev_int (i := 1)))) (ev_int (i := 2))) (ev_meth (c := "Curve") (m := "_right_side") (ks := ["prime", "a", "b"]) (f := (fun (p : O_Curve × Int × Unit) => m_Curve_u_right_side p.1 p.2.1)) (ev_var (i := 0) (x := self_) rfl) (ea_cons (ev_cast (f := D.asInt) asInt_ok asInt_x (ev_op opx_ixT (fun x y => idx_mild x.xs y) (ev_cast (f := D.asTu) asTu_ok asTu_x (ev_var (i := 1) (x := point_) rfl)) (ev_int (i := 0)))) ea_nil) (by decide +kernel) (fun _ => ⟨_, rfl⟩))) (ev_fld (g := fun (x : O_Curve) => x.f_prime) (c := "Curve") (ks := ["prime", "a", "b"]) (j := 0) (ev_var (i := 0) (x := self_) rfl) T.cl_Curve T.nf_Curve_prime (by decide +kernel) (fun _ => ⟨_, rfl, rfl⟩))) (ev_int (i := 0))) : EvX K (W0 E) [some (.im (toD self_)), some (.im (toD point_))] _ _)
      exact blk_ret L trivial hr_
noncomputable def m_Curve_multiply (self_ : O_Curve) (factor_ : Int) (point_ : (Option (T2 Int Int))) : Res (Option (T2 Int Int)) :=
  (((Res.ok self_)).bind fun a515 => (((Res.ok (none : (Option (T2 Int Int))))).bind fun a517 => (((Res.ok factor_)).bind fun a519 => (((Res.ok point_)).bind fun a521 => (Res.ok ()).bind fun a522 => Res.ok (a521, a522)).bind fun a520 => Res.ok (a519, a520)).bind fun a518 => Res.ok (a517, a518)).bind fun a516 => Res.ok (a515, a516)).bind fun p514 => m_multiply_by_bits 2 p514.1 p514.2.1 p514.2.2.1 p514.2.2.2.1
theorem ok_Curve_multiply {P : Program} {w : World} {K : PySem.W.Frag} {mg : Str → Option Value} {base : Heap} (T : Facts K mg) {fd : FuncData} (F : FnP K "multiply" "Curve.multiply" s_Curve_multiply (He.ma K (He.ga K "Curve") "multiply") fd) :
    FnOk P w K mg base (L2.CX P w) 7 (He.ma K (He.ga K "Curve") "multiply") fd ["self", "factor", "point"] (spM K (fun (p : O_Curve × Int × (Option (T2 Int Int)) × Unit) => m_Curve_multiply p.1 p.2.1 p.2.2.1)) := by
  obtain ⟨fd_multiply_by_bits, F_multiply_by_bits⟩ := T.d_multiply_by_bits
  have G_multiply_by_bits := ok_multiply_by_bits (P := P) (w := w) (base := base) T F_multiply_by_bits 2
  have b_multiply_by_bits : Binds K fd_multiply_by_bits ["curve", "neutral", "factor", "point"] [] := F_multiply_by_bits.bindsN fun _ _ _ _ _ _ us hl => match us, hl with | [_, _, _, _], _ => rfl
  refine fn_ok F sc_Curve_multiply (fun y => rfl) (fun cdv A outer s H E hr => ?_)
  refine ⟨_, (pss_one (ps_ret (pe_callS G_multiply_by_bits (hr.mono (by decide)) rfl T.g_multiply_by_bits F_multiply_by_bits.kp b_multiply_by_bits (fun σ => passAt (takes_of rfl rfl rfl rfl) σ) (pa_cons (pv 0) (pa_cons pe_non (pa_cons (pv 1) (pa_cons (pv 2) pa_nil))))))), ?_⟩
  rintro ⟨self_, factor_, point_, ⟨⟩⟩ F0 H0 Q KP L
  show Blk K F0 H0 KP _ [some (.im (toD self_)), some (.im (toD factor_)), some (.im (toD point_))] (m_Curve_multiply self_ factor_ point_)
  unfold m_Curve_multiply
  have hr_ := ((ev_call (f := (fun (p : O_Curve × (Option (T2 Int Int)) × Int × (Option (T2 Int Int)) × Unit) => m_multiply_by_bits 2 p.1 p.2.1 p.2.2.1 p.2.2.2.1)) (ea_cons (ev_var (i := 0) (x := self_) rfl) (ea_cons (ev_noneO (α := (T2 Int Int))) (ea_cons (ev_var (i := 1) (x := factor_) rfl) (ea_cons (ev_var (i := 2) (x := point_) rfl) ea_nil))))) : EvX K (W0 E) [some (.im (toD self_)), some (.im (toD factor_)), some (.im (toD point_))] _ _)
  exact blk_ret L trivial hr_
noncomputable def m_Curve_lift (self_ : O_Curve) (x_ : Int) (odd_ : Bool) : Res (Option (T2 Int Int)) :=
  ((((((Res.ok x_)).bind fun (x : Int) => Res.ok (toD x)).bind fun a525 => ((((Res.ok self_)).bind fun (t523 : O_Curve) => Res.ok t523.f_prime).bind fun a527 => (Res.ok ()).bind fun a528 => Res.ok (a527, a528)).bind fun a526 => Res.ok (a525, a526)).bind fun p524 => m_is_residue p524.1 p524.2.1).bind fun (t529 : Bool) => Res.ok (!t529)).bind fun b => cond b   ((Res.ok (none : (Option (T2 Int Int)))))   ((((((Res.ok self_)).bind fun (o530 : O_Curve) => (((Res.ok x_)).bind fun a532 => (Res.ok ()).bind fun a533 => Res.ok (a532, a533)).bind fun p531 => m_Curve_u_right_side o530 p531.1).bind fun a536 => ((((Res.ok self_)).bind fun (t534 : O_Curve) => Res.ok t534.f_prime).bind fun a538 => (((Res.ok odd_)).bind fun a540 => (Res.ok ()).bind fun a541 => Res.ok (a540, a541)).bind fun a539 => Res.ok (a538, a539)).bind fun a537 => Res.ok (a536, a537)).bind fun p535 => m_root_with_parity p535.1 p535.2.1 p535.2.2.1).bind fun (y_ : (Option Int)) =>   (((Res.ok y_)).bind fun (t542 : (Option Int)) => ((Res.ok ())).bind fun (t543 : Unit) => Res.ok (toD t542).isNon).bind fun b549 => cond b549 ((Res.ok (none : (Option (T2 Int Int))))) (((((Res.ok x_)).bind fun a545 => ((((Res.ok y_)).bind optGet).bind fun a547 => (Res.ok ()).bind fun a548 => Res.ok (a547, a548)).bind fun a546 => Res.ok (a545, a546)).bind fun p544 => Res.ok (T2.mk p544.1 p544.2.1)).bind fun (x : (T2 Int Int)) => Res.ok (some x)))
theorem ok_Curve_lift {P : Program} {w : World} {K : PySem.W.Frag} {mg : Str → Option Value} {base : Heap} (T : Facts K mg) {fd : FuncData} (F : FnP K "lift" "Curve.lift" s_Curve_lift (He.ma K (He.ga K "Curve") "lift") fd) :
    FnOk P w K mg base (L2.CX P w) 7 (He.ma K (He.ga K "Curve") "lift") fd ["self", "x", "odd"] (spM K (fun (p : O_Curve × Int × Bool × Unit) => m_Curve_lift p.1 p.2.1 p.2.2.1)) := by
  obtain ⟨fd_Curve_u_right_side, F_Curve_u_right_side⟩ := T.d_Curve_u_right_side
  have G_Curve_u_right_side := ok_Curve_u_right_side (P := P) (w := w) (base := base) T F_Curve_u_right_side
  have b_Curve_u_right_side : Binds K fd_Curve_u_right_side ["self", "x"] [] := F_Curve_u_right_side.bindsN fun _ _ _ _ _ _ us hl => match us, hl with | [_, _], _ => rfl
  obtain ⟨fd_is_residue, F_is_residue⟩ := T.d_is_residue
  have G_is_residue := ok_is_residue (P := P) (w := w) (base := base) T F_is_residue
  have b_is_residue : Binds K fd_is_residue ["value", "modulus"] [] := F_is_residue.bindsN fun _ _ _ _ _ _ us hl => match us, hl with | [_, _], _ => rfl
  obtain ⟨fd_root_with_parity, F_root_with_parity⟩ := T.d_root_with_parity
  have G_root_with_parity := ok_root_with_parity (P := P) (w := w) (base := base) T F_root_with_parity
  have b_root_with_parity : Binds K fd_root_with_parity ["a", "prime", "odd"] [] := F_root_with_parity.bindsN fun _ _ _ _ _ _ us hl => match us, hl with | [_, _, _], _ => rfl
  refine fn_ok F sc_Curve_lift (fun y => rfl) (fun cdv A outer s H E hr => ?_)
  refine ⟨_, (pss_cons (ps_if (pt_not (pt_val (pe_callS G_is_residue (hr.mono (by decide)) rfl T.g_is_residue F_is_residue.kp b_is_residue (fun σ => passAt (takes_of rfl rfl rfl rfl) σ) (pa_cons (pv 1) (pa_cons (pe_fld (pv 0) rfl) pa_nil))))) (pss_one (ps_ret pe_non)) pss_nil) (pss_cons (ps_set (i := 3) sc_Curve_lift.nd rfl (Or.inl rfl) (pe_callS G_root_with_parity (hr.mono (by decide)) rfl T.g_root_with_parity F_root_with_parity.kp b_root_with_parity (fun σ => passAt (takes_of rfl rfl rfl rfl) σ) (pa_cons (pe_methQ (pv 0) T.cl_Curve T.mt_Curve_u_right_side G_Curve_u_right_side (hr.mono (by decide)) b_Curve_u_right_side (fun σ => passAt (takes_of rfl rfl rfl rfl) σ) (pa_cons (pv 1) pa_nil)) (pa_cons (pe_fld (pv 0) rfl) (pa_cons (pv 2) pa_nil))))) (pss_one (ps_ret (pe_ifExp (pt_cmpR op_isN (pv 3) pe_non (nomark _)) pe_non (pe_tup (pa_cons (pv 1) (pa_cons (pv 3) pa_nil)))))))), ?_⟩
  rintro ⟨self_, x_, odd_, ⟨⟩⟩ F0 H0 Q KP L
  show Blk K F0 H0 KP _ [some (.im (toD self_)), some (.im (toD x_)), some (.im (toD odd_)), none] (m_Curve_lift self_ x_ odd_)
  unfold m_Curve_lift
  have ht_ := ((et_not (et_B (ev_call (f := (fun (p : D × Int × Unit) => m_is_residue p.1 p.2.1)) (ea_cons (ev_as (ev_var (i := 1) (x := x_) rfl) toD (fun _ => rfl) rfl) (ea_cons (ev_fld (g := fun (x : O_Curve) => x.f_prime) (c := "Curve") (ks := ["prime", "a", "b"]) (j := 0) (ev_var (i := 0) (x := self_) rfl) T.cl_Curve T.nf_Curve_prime (by decide +kernel) (fun _ => ⟨_, rfl, rfl⟩)) ea_nil))))) : EvT K (W0 E) [some (.im (toD self_)), some (.im (toD x_)), some (.im (toD odd_)), none] _ _)
  refine blk_seq (blk_if2 L trivial ht_ ?_ ?_)
  · have hr_ := ((ev_noneO (α := (T2 Int Int))) : EvX K (W0 E) [some (.im (toD self_)), some (.im (toD x_)), some (.im (toD odd_)), none] _ _)
    exact blk_ret L trivial hr_
  · refine blk_nil ?_
    try refine Blk.nx ?_
    have hs_ := ((ev_call (f := (fun (p : Int × Int × Bool × Unit) => m_root_with_parity p.1 p.2.1 p.2.2.1)) (ea_cons (ev_meth (c := "Curve") (m := "_right_side") (ks := ["prime", "a", "b"]) (f := (fun (p : O_Curve × Int × Unit) => m_Curve_u_right_side p.1 p.2.1)) (ev_var (i := 0) (x := self_) rfl) (ea_cons (ev_var (i := 1) (x := x_) rfl) ea_nil) (by decide +kernel) (fun _ => ⟨_, rfl⟩)) (ea_cons (ev_fld (g := fun (x : O_Curve) => x.f_prime) (c := "Curve") (ks := ["prime", "a", "b"]) (j := 0) (ev_var (i := 0) (x := self_) rfl) T.cl_Curve T.nf_Curve_prime (by decide +kernel) (fun _ => ⟨_, rfl, rfl⟩)) (ea_cons (ev_var (i := 2) (x := odd_) rfl) ea_nil)))) : EvX K (W0 E) [some (.im (toD self_)), some (.im (toD x_)), some (.im (toD odd_)), none] _ _)
    refine blk_seq (blk_set (i := 3) L trivial hs_ fun y_ => ?_)
    show Blk _ _ _ _ _ [some (.im (toD self_)), some (.im (toD x_)), some (.im (toD odd_)), some (.im (toD y_))] _
    try refine Blk.nx ?_
    have hr_ := ((ev_if (et_test (ev_op opx_isN mild_ok (ev_var (i := 3) (x := y_) rfl) ev_non)) (ev_noneO (α := (T2 Int Int))) (ev_as (ev_tup (f := (fun y => T2.mk y.1 y.2.1)) (ea_cons (ev_var (i := 1) (x := x_) rfl) (ea_cons (ev_castG (f := optGet) optGet_ok optGet_x (ev_var (i := 3) (x := y_) rfl)) ea_nil)) (fun _ => rfl) (fun _ => by show 2 ≤ 100000; decide)) some (fun _ => rfl) rfl)) : EvX K (W0 E) [some (.im (toD self_)), some (.im (toD x_)), some (.im (toD odd_)), some (.im (toD y_))] _ _)
    exact blk_ret L trivial hr_
noncomputable def m_u_law_cell (script_ : (Ro Int)) (k_ : Int) : Res Int :=
  (((Res.ok k_)).bind fun (t553 : Int) => ((((Res.ok script_)).bind fun a551 => (Res.ok ()).bind fun a552 => Res.ok (a551, a552)).bind fun p550 => Res.ok ((p550.1).xs.length : Int)).bind fun (t554 : Int) => Res.ok (decide (t553 < t554))).bind fun b => cond b   (((((Res.ok script_)).bind fun (t555 : (Ro Int)) => ((Res.ok k_)).bind fun (t556 : Int) => idx (t555).xs t556).bind fun a558 => (Res.ok ()).bind fun a559 => Res.ok (a558, a559)).bind fun p557 => Res.ok p557.1)   ((Res.ok (0 : Int)))
theorem ok_u_law_cell {P : Program} {w : World} {K : PySem.W.Frag} {mg : Str → Option Value} {base : Heap} (T : Facts K mg) {fd : FuncData} (F : FnP K "_law_cell" "_law_cell" s_u_law_cell (He.ga K "_law_cell") fd) :
    FnOk P w K mg base (L2.CX P w) 1 (He.ga K "_law_cell") fd ["script", "k"] (spM K (fun (p : (Ro Int) × Int × Unit) => m_u_law_cell p.1 p.2.1)) := by
  refine fn_ok F sc_u_law_cell (fun y => rfl) (fun cdv A outer s H E hr => ?_)
  refine ⟨_, (pss_cons (ps_if (pt_cmpR op_lt (pv 1) (pe_callB (cr_len rfl) (by rfl) T.n_len (by decide +kernel) (pa_cons (pv 0) pa_nil)) (nomark _)) (pss_one (ps_ret (pe_callTy call_int1 (by rfl) T.n_int (by decide +kernel) (pa_cons (pe_ix (cr_ixL rfl) (pv 0) (pv 1) (fun _ _ => rfl)) pa_nil)))) pss_nil) (pss_one (ps_ret pe_int))), ?_⟩
  rintro ⟨script_, k_, ⟨⟩⟩ F0 H0 Q KP L
  show Blk K F0 H0 KP _ [some (.im (toD script_)), some (.im (toD k_))] (m_u_law_cell script_ k_)
  unfold m_u_law_cell
  have ht_ := ((et_test (ev_op (opx_B0 (g := fun i j => decide (i < j))) mild_ok (ev_var (i := 1) (x := k_) rfl) (ev_cb cx_lenRo (fun _ _ h => nomatch h) (ea_cons (ev_var (i := 0) (x := script_) rfl) ea_nil)))) : EvT K (W0 E) [some (.im (toD script_)), some (.im (toD k_))] _ _)
  refine blk_seq (blk_if2 L trivial ht_ ?_ ?_)
  · have hr_ := ((ev_cb cx_int (fun _ _ h => nomatch h) (ea_cons (ev_op opx_ixR (fun x y => idx_mild x.xs y) (ev_var (i := 0) (x := script_) rfl) (ev_var (i := 1) (x := k_) rfl)) ea_nil)) : EvX K (W0 E) [some (.im (toD script_)), some (.im (toD k_))] _ _)
    exact blk_ret L trivial hr_
  · refine blk_nil ?_
    try refine Blk.nx ?_
    have hr_ := ((ev_int (i := 0)) : EvX K (W0 E) [some (.im (toD script_)), some (.im (toD k_))] _ _)
    exact blk_ret L trivial hr_
noncomputable def m_u_law_power_k3 (exponent_ : Int) (modulus_ : Int) (square_ : Int) (g1 : Int × Int × Int → Res Int) : Int → Res Int := fun result_ =>   ((((Res.ok square_)).bind fun (t570 : Int) => ((Res.ok square_)).bind fun (t571 : Int) => Res.need (CMulX t570 t571) (Res.ok (t570 * t571))).bind fun (t572 : Int) => ((Res.ok modulus_)).bind fun (t573 : Int) => Res.need (0 < t573) (Res.ok (t572 % t573))).bind fun (square_ : Int) =>   (((Res.ok exponent_)).bind fun (t574 : Int) => ((Res.ok (2 : Int))).bind fun (t575 : Int) => Res.ok (t574 / t575)).bind fun (exponent_ : Int) =>   g1 (exponent_, result_, square_)
noncomputable def m_u_law_power_l1 (modulus_ : Int) (k1 : Int × Int × Int → Res Int) : List Int → Int × Int × Int → Res Int
  | [], s => k1 s
  | x563 :: r1, (exponent_, result_, square_) =>   (fun (k_ : Int) => (((Res.ok exponent_)).bind fun (t564 : Int) => ((Res.ok (0 : Int))).bind fun (t565 : Int) => Res.ok (decide (t564 = t565))).bind fun b => cond b   (k1 (exponent_, result_, square_))   (((((Res.ok exponent_)).bind fun (t566 : Int) => ((Res.ok (2 : Int))).bind fun (t567 : Int) => Res.ok (t566 % t567)).bind fun (t568 : Int) => ((Res.ok (1 : Int))).bind fun (t569 : Int) => Res.ok (decide (t568 = t569))).bind fun b => cond b   (((((Res.ok result_)).bind fun (t576 : Int) => ((Res.ok square_)).bind fun (t577 : Int) => Res.need (CMulX t576 t577) (Res.ok (t576 * t577))).bind fun (t578 : Int) => ((Res.ok modulus_)).bind fun (t579 : Int) => Res.need (0 < t579) (Res.ok (t578 % t579))).bind fun (result_ : Int) =>   (m_u_law_power_k3 exponent_ modulus_ square_ (m_u_law_power_l1 modulus_ k1 r1)) result_)   ((m_u_law_power_k3 exponent_ modulus_ square_ (m_u_law_power_l1 modulus_ k1 r1)) result_))) x563
noncomputable def m_u_law_power_k4 : Int × Int × Int → Res Int := fun (exponent_, result_, square_) =>   (Res.ok result_)
noncomputable def m_u_law_power (a_ : Int) (exponent_ : Int) (modulus_ : Int) : Res Int :=
  ((Res.ok (1 : Int))).bind fun (result_ : Int) =>   (((Res.ok a_)).bind fun (t560 : Int) => ((Res.ok modulus_)).bind fun (t561 : Int) => Res.need (0 < t561) (Res.ok (t560 % t561))).bind fun (square_ : Int) =>   (((Res.ok (260 : Int))).bind fun (t562 : Int) => Res.need (okRange t562) (Res.ok (pyRange 0 t562))).bind fun (xs580 : List Int) => m_u_law_power_l1 modulus_ (m_u_law_power_k4) xs580 (exponent_, result_, square_)
theorem ok_u_law_power {P : Program} {w : World} {K : PySem.W.Frag} {mg : Str → Option Value} {base : Heap} (T : Facts K mg) {fd : FuncData} (F : FnP K "_law_power" "_law_power" s_u_law_power (He.ga K "_law_power") fd) :
    FnOk P w K mg base (L2.CX P w) 1 (He.ga K "_law_power") fd ["a", "exponent", "modulus"] (spM K (fun (p : Int × Int × Int × Unit) => m_u_law_power p.1 p.2.1 p.2.2.1)) := by
  refine fn_ok F sc_u_law_power (fun y => rfl) (fun cdv A outer s H E hr => ?_)
  refine ⟨_, (pss_cons (ps_set (i := 3) sc_u_law_power.nd rfl (Or.inl rfl) pe_int) (pss_cons (ps_set (i := 4) sc_u_law_power.nd rfl (Or.inl rfl) (pe_op op_mod (pv 0) (pv 2))) (pss_cons (ps_for (passes_of rfl) rfl (pi_range1 rfl T.n_range (pa_cons pe_int pa_nil)) (pg_name (i := 5) sc_u_law_power.nd rfl (Or.inl rfl)) (pss_cons (ps_if (pt_cmpR op_eq (pv 1) pe_int (nomark _)) (pss_one ps_break) pss_nil) (pss_cons (ps_if (pt_cmpR op_eq (pe_op op_mod (pv 1) pe_int) pe_int (nomark _)) (pss_one (ps_set (i := 3) sc_u_law_power.nd rfl (Or.inl rfl) (pe_op op_mod (pe_op op_mulX (pv 3) (pv 4)) (pv 2)))) pss_nil) (pss_cons (ps_set (i := 4) sc_u_law_power.nd rfl (Or.inl rfl) (pe_op op_mod (pe_op op_mulX (pv 4) (pv 4)) (pv 2))) (pss_one (ps_set (i := 1) sc_u_law_power.nd rfl (Or.inl rfl) (pe_op op_fdiv (pv 1) pe_int))))))) (pss_one (ps_ret (pv 3)))))), ?_⟩
  rintro ⟨a_, exponent_, modulus_, ⟨⟩⟩ F0 H0 Q KP L
  show Blk K F0 H0 KP _ [some (.im (toD a_)), some (.im (toD exponent_)), some (.im (toD modulus_)), none, none, none] (m_u_law_power a_ exponent_ modulus_)
  unfold m_u_law_power
  have hs_ := ((ev_int (i := 1)) : EvX K (W0 E) [some (.im (toD a_)), some (.im (toD exponent_)), some (.im (toD modulus_)), none, none, none] _ _)
  refine blk_seq (blk_set (i := 3) L trivial hs_ fun result_ => ?_)
  show Blk _ _ _ _ _ [some (.im (toD a_)), some (.im (toD exponent_)), some (.im (toD modulus_)), some (.im (toD result_)), none, none] _
  try refine Blk.nx ?_
  have hs_ := ((ev_op (opx_I (C := (fun _ j => 0 < j)) (g := fun i j => i % j)) mild_need (ev_var (i := 0) (x := a_) rfl) (ev_var (i := 2) (x := modulus_) rfl)) : EvX K (W0 E) [some (.im (toD a_)), some (.im (toD exponent_)), some (.im (toD modulus_)), some (.im (toD result_)), none, none] _ _)
  refine blk_seq (blk_set (i := 4) L trivial hs_ fun square_ => ?_)
  show Blk _ _ _ _ _ [some (.im (toD a_)), some (.im (toD exponent_)), some (.im (toD modulus_)), some (.im (toD result_)), some (.im (toD square_)), none] _
  try refine Blk.nx ?_
  have hi_ := ((ei_range1 (ev_int (i := 260))) : EvI K (W0 E) [some (.im (toD a_)), some (.im (toD exponent_)), some (.im (toD modulus_)), some (.im (toD result_)), some (.im (toD square_)), none] _ _)
  refine blk_seq (blk_for (S := Int × Int × Int) (m_u_law_power_l1 modulus_ (m_u_law_power_k4)) (m_u_law_power_k4) (fun (exponent_, result_, square_) => [some (.im (toD a_)), some (.im (toD exponent_)), some (.im (toD modulus_)), some (.im (toD result_)), some (.im (toD square_)), none]) (exponent_, result_, square_) L trivial hi_ (fun _ => gx_name) (.same (.same (.same (.same (.same (.same .nil)))))) (fun _ => rfl) ?_ ?_)
  · intro F1 L1 hB1 x563 r1 s_ N_ hN1
    obtain ⟨exponent_, result_, square_⟩ := s_
    show Blk _ _ _ _ _ [some (.im (toD a_)), some (.im (toD exponent_)), some (.im (toD modulus_)), some (.im (toD result_)), some (.im (toD square_)), some (.im (toD x563))] (m_u_law_power_l1 modulus_ (m_u_law_power_k4) (x563 :: r1) (exponent_, result_, square_))
    rw [m_u_law_power_l1]
    show Blk _ _ _ _ _ _ ((fun (k_ : Int) => _) x563)
    generalize x563 = k_
    show Blk _ _ _ _ _ [some (.im (toD a_)), some (.im (toD exponent_)), some (.im (toD modulus_)), some (.im (toD result_)), some (.im (toD square_)), some (.im (toD k_))] _
    have ht_ := ((et_test (ev_op opx_eqI mild_ok (ev_var (i := 1) (x := exponent_) rfl) (ev_int (i := 0)))) : EvT K (W0 E) [some (.im (toD a_)), some (.im (toD exponent_)), some (.im (toD modulus_)), some (.im (toD result_)), some (.im (toD square_)), some (.im (toD k_))] _ _)
    refine blk_seq (blk_if2 L1 trivial ht_ ?_ ?_)
    · exact (hB1 (exponent_, result_, square_)).weak (.same (.same (.same (.same (.same (.drop .nil))))))
    · refine blk_nil ?_
      try refine Blk.nx ?_
      have ht_ := ((et_test (ev_op opx_eqI mild_ok (ev_opI (C := (fun _ j => 0 < j)) (g := fun i j => i % j) (fun x y _ h => by cases h; (show (0 : Int) < _; decide)) (ev_var (i := 1) (x := exponent_) rfl) (ev_int (i := 2))) (ev_int (i := 1)))) : EvT K (W0 E) [some (.im (toD a_)), some (.im (toD exponent_)), some (.im (toD modulus_)), some (.im (toD result_)), some (.im (toD square_)), some (.im (toD k_))] _ _)
      refine blk_seq (blk_ifj (S := Int) (fun result_ => [some (.im (toD a_)), some (.im (toD exponent_)), some (.im (toD modulus_)), some (.im (toD result_)), some (.im (toD square_)), some (.im (toD k_))]) (m_u_law_power_k3 exponent_ modulus_ square_ (m_u_law_power_l1 modulus_ (m_u_law_power_k4) r1)) L1 trivial ht_ ?_ ?_ ?_)
      · intro result_
        show Blk _ _ _ _ _ [some (.im (toD a_)), some (.im (toD exponent_)), some (.im (toD modulus_)), some (.im (toD result_)), some (.im (toD square_)), some (.im (toD k_))] ((m_u_law_power_k3 exponent_ modulus_ square_ (m_u_law_power_l1 modulus_ (m_u_law_power_k4) r1)) result_)
        unfold m_u_law_power_k3
        try refine Blk.nx ?_
        have hs_ := ((ev_op (opx_I (C := (fun _ j => 0 < j)) (g := fun i j => i % j)) mild_need (ev_op (opx_I (C := CMulX) (g := fun i j => i * j)) mild_need (ev_var (i := 4) (x := square_) rfl) (ev_var (i := 4) (x := square_) rfl)) (ev_var (i := 2) (x := modulus_) rfl)) : EvX K (W0 E) [some (.im (toD a_)), some (.im (toD exponent_)), some (.im (toD modulus_)), some (.im (toD result_)), some (.im (toD square_)), some (.im (toD k_))] _ _)
        refine blk_seq (blk_set (i := 4) L1 trivial hs_ fun square_ => ?_)
        show Blk _ _ _ _ _ [some (.im (toD a_)), some (.im (toD exponent_)), some (.im (toD modulus_)), some (.im (toD result_)), some (.im (toD square_)), some (.im (toD k_))] _
        try refine Blk.nx ?_
        have hs_ := ((ev_opI (C := CDiv) (g := fun i j => i / j) (fun x y _ h => by cases h; exact ⟨by decide, by decide⟩) (ev_var (i := 1) (x := exponent_) rfl) (ev_int (i := 2))) : EvX K (W0 E) [some (.im (toD a_)), some (.im (toD exponent_)), some (.im (toD modulus_)), some (.im (toD result_)), some (.im (toD square_)), some (.im (toD k_))] _ _)
        refine blk_set (i := 1) L1 trivial hs_ fun exponent_ => ?_
        show Blk _ _ _ _ _ [some (.im (toD a_)), some (.im (toD exponent_)), some (.im (toD modulus_)), some (.im (toD result_)), some (.im (toD square_)), some (.im (toD k_))] _
        try refine Blk.nx ?_
        exact (hN1 (exponent_, result_, square_)).weak (.same (.same (.same (.same (.same (.drop .nil))))))
      · intro hk3
        have hs_ := ((ev_op (opx_I (C := (fun _ j => 0 < j)) (g := fun i j => i % j)) mild_need (ev_op (opx_I (C := CMulX) (g := fun i j => i * j)) mild_need (ev_var (i := 3) (x := result_) rfl) (ev_var (i := 4) (x := square_) rfl)) (ev_var (i := 2) (x := modulus_) rfl)) : EvX K (W0 E) [some (.im (toD a_)), some (.im (toD exponent_)), some (.im (toD modulus_)), some (.im (toD result_)), some (.im (toD square_)), some (.im (toD k_))] _ _)
        refine blk_set (i := 3) L1 trivial hs_ fun result_ => ?_
        show Blk _ _ _ _ _ [some (.im (toD a_)), some (.im (toD exponent_)), some (.im (toD modulus_)), some (.im (toD result_)), some (.im (toD square_)), some (.im (toD k_))] _
        try refine Blk.nx ?_
        exact (hk3 result_).weak (.same (.same (.same (.same (.same (.same .nil))))))
      · intro hk3
        refine blk_nil ?_
        try refine Blk.nx ?_
        exact (hk3 result_).weak (.same (.same (.same (.same (.same (.same .nil))))))
  · rintro ⟨exponent_, result_, square_⟩
    show Blk _ _ _ _ _ [some (.im (toD a_)), some (.im (toD exponent_)), some (.im (toD modulus_)), some (.im (toD result_)), some (.im (toD square_)), none] ((m_u_law_power_k4) (exponent_, result_, square_))
    unfold m_u_law_power_k4
    try refine Blk.nx ?_
    have hr_ := ((ev_var (i := 3) (x := result_) rfl) : EvX K (W0 E) [some (.im (toD a_)), some (.im (toD exponent_)), some (.im (toD modulus_)), some (.im (toD result_)), some (.im (toD square_)), none] _ _)
    exact blk_ret L trivial hr_
noncomputable def m_u_law_inverse (a_ : Int) (prime_ : Int) : Res Int :=
  (((Res.ok a_)).bind fun a584 => ((((Res.ok prime_)).bind fun (t581 : Int) => ((Res.ok (2 : Int))).bind fun (t582 : Int) => Res.ok (t581 - t582)).bind fun a586 => (((Res.ok prime_)).bind fun a588 => (Res.ok ()).bind fun a589 => Res.ok (a588, a589)).bind fun a587 => Res.ok (a586, a587)).bind fun a585 => Res.ok (a584, a585)).bind fun p583 => m_u_law_power p583.1 p583.2.1 p583.2.2.1
theorem ok_u_law_inverse {P : Program} {w : World} {K : PySem.W.Frag} {mg : Str → Option Value} {base : Heap} (T : Facts K mg) {fd : FuncData} (F : FnP K "_law_inverse" "_law_inverse" s_u_law_inverse (He.ga K "_law_inverse") fd) :
    FnOk P w K mg base (L2.CX P w) 2 (He.ga K "_law_inverse") fd ["a", "prime"] (spM K (fun (p : Int × Int × Unit) => m_u_law_inverse p.1 p.2.1)) := by
  obtain ⟨fd_u_law_power, F_u_law_power⟩ := T.d_u_law_power
  have G_u_law_power := ok_u_law_power (P := P) (w := w) (base := base) T F_u_law_power
  have b_u_law_power : Binds K fd_u_law_power ["a", "exponent", "modulus"] [] := F_u_law_power.bindsN fun _ _ _ _ _ _ us hl => match us, hl with | [_, _, _], _ => rfl
  refine fn_ok F sc_u_law_inverse (fun y => rfl) (fun cdv A outer s H E hr => ?_)
  refine ⟨_, (pss_one (ps_ret (pe_callS G_u_law_power (hr.mono (by decide)) rfl T.g_u_law_power F_u_law_power.kp b_u_law_power (fun σ => passAt (takes_of rfl rfl rfl rfl) σ) (pa_cons (pv 0) (pa_cons (pe_op op_sub (pv 1) pe_int) (pa_cons (pv 1) pa_nil)))))), ?_⟩
  rintro ⟨a_, prime_, ⟨⟩⟩ F0 H0 Q KP L
  show Blk K F0 H0 KP _ [some (.im (toD a_)), some (.im (toD prime_))] (m_u_law_inverse a_ prime_)
  unfold m_u_law_inverse
  have hr_ := ((ev_call (f := (fun (p : Int × Int × Int × Unit) => m_u_law_power p.1 p.2.1 p.2.2.1)) (ea_cons (ev_var (i := 0) (x := a_) rfl) (ea_cons (ev_op (opx_I0 (g := fun i j => i - j)) mild_ok (ev_var (i := 1) (x := prime_) rfl) (ev_int (i := 2))) (ea_cons (ev_var (i := 1) (x := prime_) rfl) ea_nil)))) : EvX K (W0 E) [some (.im (toD a_)), some (.im (toD prime_))] _ _)
  exact blk_ret L trivial hr_
noncomputable def m_u_law_residue (cell_ : Int) (prime_ : Int) : Res Int :=
  ((((Res.ok cell_)).bind fun a591 => (Res.ok ()).bind fun a592 => Res.ok (a591, a592)).bind fun p590 => Res.ok (Int.natAbs p590.1 : Int)).bind fun (rest_ : Int) =>   (((Res.ok rest_)).bind fun (t595 : Int) => (((Res.ok (10 : Int))).bind fun (t593 : Int) => ((Res.ok (18 : Int))).bind fun (t594 : Int) => Res.ok (t593 ^ t594.toNat)).bind fun (t596 : Int) => Res.ok (decide (t596 ≤ t595))).bind fun b => cond b   (((Res.ok rest_)).bind fun (t597 : Int) => ((Res.ok prime_)).bind fun (t598 : Int) => Res.need (0 < t598) (Res.ok (t597 % t598)))   (((((Res.ok rest_)).bind fun (t599 : Int) => ((Res.ok (3 : Int))).bind fun (t600 : Int) => Res.ok (t599 % t600)).bind fun (t601 : Int) => ((Res.ok (1 : Int))).bind fun (t602 : Int) => Res.ok (decide (t601 = t602))).bind fun b => cond b   ((((((Res.ok (0 : Int))).bind fun a608 => (((Res.ok (1 : Int))).bind fun a610 => (((Res.ok (2 : Int))).bind fun a612 => ((((Res.ok prime_)).bind fun (t603 : Int) => ((Res.ok (1 : Int))).bind fun (t604 : Int) => Res.ok (t603 - t604)).bind fun a614 => ((((Res.ok prime_)).bind fun (t605 : Int) => ((Res.ok (2 : Int))).bind fun (t606 : Int) => Res.ok (t605 - t606)).bind fun a616 => (((Res.ok (3 : Int))).bind fun a618 => (Res.ok ()).bind fun a619 => Res.ok (a618, a619)).bind fun a617 => Res.ok (a616, a617)).bind fun a615 => Res.ok (a614, a615)).bind fun a613 => Res.ok (a612, a613)).bind fun a611 => Res.ok (a610, a611)).bind fun a609 => Res.ok (a608, a609)).bind fun p607 => Res.ok ([p607.1, p607.2.1, p607.2.2.1, p607.2.2.2.1, p607.2.2.2.2.1, p607.2.2.2.2.2.1] : List Int)).bind fun (t624 : (List Int)) => ((((Res.ok rest_)).bind fun (t620 : Int) => ((Res.ok (3 : Int))).bind fun (t621 : Int) => Res.ok (t620 / t621)).bind fun (t622 : Int) => ((Res.ok (6 : Int))).bind fun (t623 : Int) => Res.ok (t622 % t623)).bind fun (t625 : Int) => idx t624 t625).bind fun (t626 : Int) => ((Res.ok prime_)).bind fun (t627 : Int) => Res.need (0 < t627) (Res.ok (t626 % t627)))   (((((((Res.ok rest_)).bind fun (t628 : Int) => ((Res.ok (48271 : Int))).bind fun (t629 : Int) => Res.ok (t628 * t629)).bind fun (t630 : Int) => ((Res.ok (69621 : Int))).bind fun (t631 : Int) => Res.ok (t630 * t631)).bind fun (t636 : Int) => ((((Res.ok (7919 : Int))).bind fun (t632 : Int) => ((Res.ok rest_)).bind fun (t633 : Int) => Res.ok (t632 * t633)).bind fun (t634 : Int) => ((Res.ok rest_)).bind fun (t635 : Int) => Res.need (CMulX t634 t635) (Res.ok (t634 * t635))).bind fun (t637 : Int) => Res.ok (t636 + t637)).bind fun (t638 : Int) => ((Res.ok (5 : Int))).bind fun (t639 : Int) => Res.ok (t638 + t639)).bind fun (t640 : Int) => ((Res.ok prime_)).bind fun (t641 : Int) => Res.need (0 < t641) (Res.ok (t640 % t641))))
theorem ok_u_law_residue {P : Program} {w : World} {K : PySem.W.Frag} {mg : Str → Option Value} {base : Heap} (T : Facts K mg) {fd : FuncData} (F : FnP K "_law_residue" "_law_residue" s_u_law_residue (He.ga K "_law_residue") fd) :
    FnOk P w K mg base (L2.CX P w) 1 (He.ga K "_law_residue") fd ["cell", "prime"] (spM K (fun (p : Int × Int × Unit) => m_u_law_residue p.1 p.2.1)) := by
  refine fn_ok F sc_u_law_residue (fun y => rfl) (fun cdv A outer s H E hr => ?_)
  refine ⟨_, (pss_cons (ps_set (i := 2) sc_u_law_residue.nd rfl (Or.inl rfl) (pe_callB call_abs (by rfl) T.n_abs (by decide +kernel) (pa_cons (pv 0) pa_nil))) (pss_cons (ps_if (pt_cmpR op_ge (pv 2) (pe_op op_pow pe_int pe_int) (nomark _)) (pss_one (ps_ret (pe_op op_mod (pv 2) (pv 1)))) pss_nil) (pss_cons (ps_if (pt_cmpR op_eq (pe_op op_mod (pv 2) pe_int) pe_int (nomark _)) (pss_one (ps_ret (pe_op op_mod (pe_ix (cr_ixL rfl) (pe_lst (pa_cons pe_int (pa_cons pe_int (pa_cons pe_int (pa_cons (pe_op op_sub (pv 1) pe_int) (pa_cons (pe_op op_sub (pv 1) pe_int) (pa_cons pe_int pa_nil))))))) (pe_op op_mod (pe_op op_fdiv (pv 2) pe_int) pe_int) (fun _ _ => rfl)) (pv 1)))) pss_nil) (pss_one (ps_ret (pe_op op_mod (pe_op op_add (pe_op op_add (pe_op op_mul (pe_op op_mul (pv 2) pe_int) pe_int) (pe_op op_mulX (pe_op op_mul pe_int (pv 2)) (pv 2))) pe_int) (pv 1))))))), ?_⟩
  rintro ⟨cell_, prime_, ⟨⟩⟩ F0 H0 Q KP L
  show Blk K F0 H0 KP _ [some (.im (toD cell_)), some (.im (toD prime_)), none] (m_u_law_residue cell_ prime_)
  unfold m_u_law_residue
  have hs_ := ((ev_cb cx_abs (fun _ _ h => nomatch h) (ea_cons (ev_var (i := 0) (x := cell_) rfl) ea_nil)) : EvX K (W0 E) [some (.im (toD cell_)), some (.im (toD prime_)), none] _ _)
  refine blk_seq (blk_set (i := 2) L trivial hs_ fun rest_ => ?_)
  show Blk _ _ _ _ _ [some (.im (toD cell_)), some (.im (toD prime_)), some (.im (toD rest_))] _
  try refine Blk.nx ?_
  have ht_ := ((et_test (ev_op (opx_B0 (g := fun i j => decide (j ≤ i))) mild_ok (ev_var (i := 2) (x := rest_) rfl) (ev_opI (C := CPow) (g := fun i j => i ^ j.toNat) (fun x y h1 h2 => by cases h1; cases h2; exact ⟨by decide, by decide, by decide⟩) (ev_int (i := 10)) (ev_int (i := 18))))) : EvT K (W0 E) [some (.im (toD cell_)), some (.im (toD prime_)), some (.im (toD rest_))] _ _)
  refine blk_seq (blk_if2 L trivial ht_ ?_ ?_)
  · have hr_ := ((ev_op (opx_I (C := (fun _ j => 0 < j)) (g := fun i j => i % j)) mild_need (ev_var (i := 2) (x := rest_) rfl) (ev_var (i := 1) (x := prime_) rfl)) : EvX K (W0 E) [some (.im (toD cell_)), some (.im (toD prime_)), some (.im (toD rest_))] _ _)
    exact blk_ret L trivial hr_
  · refine blk_nil ?_
    try refine Blk.nx ?_
    have ht_ := ((et_test (ev_op opx_eqI mild_ok (ev_opI (C := (fun _ j => 0 < j)) (g := fun i j => i % j) (fun x y _ h => by cases h; (show (0 : Int) < _; decide)) (ev_var (i := 2) (x := rest_) rfl) (ev_int (i := 3))) (ev_int (i := 1)))) : EvT K (W0 E) [some (.im (toD cell_)), some (.im (toD prime_)), some (.im (toD rest_))] _ _)
    refine blk_seq (blk_if2 L trivial ht_ ?_ ?_)
    · have hr_ := ((ev_op (opx_I (C := (fun _ j => 0 < j)) (g := fun i j => i % j)) mild_need (ev_op opx_ixL (fun x y => idx_mild x y) (ev_ofN (en_lst (f := (fun y => ([y.1, y.2.1, y.2.2.1, y.2.2.2.1, y.2.2.2.2.1, y.2.2.2.2.2.1] : List Int))) (ea_cons (ev_int (i := 0)) (ea_cons (ev_int (i := 1)) (ea_cons (ev_int (i := 2)) (ea_cons (ev_op (opx_I0 (g := fun i j => i - j)) mild_ok (ev_var (i := 1) (x := prime_) rfl) (ev_int (i := 1))) (ea_cons (ev_op (opx_I0 (g := fun i j => i - j)) mild_ok (ev_var (i := 1) (x := prime_) rfl) (ev_int (i := 2))) (ea_cons (ev_int (i := 3)) ea_nil)))))) (fun _ => rfl) (fun _ => by show 6 ≤ 100000; decide))) (ev_opI (C := (fun _ j => 0 < j)) (g := fun i j => i % j) (fun x y _ h => by cases h; (show (0 : Int) < _; decide)) (ev_opI (C := CDiv) (g := fun i j => i / j) (fun x y _ h => by cases h; exact ⟨by decide, by decide⟩) (ev_var (i := 2) (x := rest_) rfl) (ev_int (i := 3))) (ev_int (i := 6)))) (ev_var (i := 1) (x := prime_) rfl)) : EvX K (W0 E) [some (.im (toD cell_)), some (.im (toD prime_)), some (.im (toD rest_))] _ _)
      exact blk_ret L trivial hr_
    · refine blk_nil ?_
      try refine Blk.nx ?_
      have hr_ := ((ev_op (opx_I (C := (fun _ j => 0 < j)) (g := fun i j => i % j)) mild_need (ev_op (opx_I0 (g := fun i j => i + j)) mild_ok (ev_op (opx_I0 (g := fun i j => i + j)) mild_ok (ev_opI (C := CMul) (g := fun i j => i * j) (fun x y _ h => by cases h; exact .inr (by decide)) (ev_opI (C := CMul) (g := fun i j => i * j) (fun x y _ h => by cases h; exact .inr (by decide)) (ev_var (i := 2) (x := rest_) rfl) (ev_int (i := 48271))) (ev_int (i := 69621))) (ev_op (opx_I (C := CMulX) (g := fun i j => i * j)) mild_need (ev_opI (C := CMul) (g := fun i j => i * j) (fun x y h _ => by cases h; exact .inl (by decide)) (ev_int (i := 7919)) (ev_var (i := 2) (x := rest_) rfl)) (ev_var (i := 2) (x := rest_) rfl))) (ev_int (i := 5))) (ev_var (i := 1) (x := prime_) rfl)) : EvX K (W0 E) [some (.im (toD cell_)), some (.im (toD prime_)), some (.im (toD rest_))] _ _)
      exact blk_ret L trivial hr_
noncomputable def m_u_law_curve_and_points_k1 (prime_ : Int) (x1_ : Int) (y1_ : Int) (x2_ : Int) : Int × Int → Res (T4 Int Int (T2 Int Int) (T2 Int Int)) := fun (y2_, a_) =>   ((((((Res.ok y1_)).bind fun (t702 : Int) => ((Res.ok y1_)).bind fun (t703 : Int) => Res.need (CMulX t702 t703) (Res.ok (t702 * t703))).bind fun (t708 : Int) => ((((Res.ok x1_)).bind fun (t704 : Int) => ((Res.ok x1_)).bind fun (t705 : Int) => Res.need (CMulX t704 t705) (Res.ok (t704 * t705))).bind fun (t706 : Int) => ((Res.ok x1_)).bind fun (t707 : Int) => Res.need (CMulX t706 t707) (Res.ok (t706 * t707))).bind fun (t709 : Int) => Res.ok (t708 - t709)).bind fun (t712 : Int) => (((Res.ok a_)).bind fun (t710 : Int) => ((Res.ok x1_)).bind fun (t711 : Int) => Res.need (CMulX t710 t711) (Res.ok (t710 * t711))).bind fun (t713 : Int) => Res.ok (t712 - t713)).bind fun (t714 : Int) => ((Res.ok prime_)).bind fun (t715 : Int) => Res.need (0 < t715) (Res.ok (t714 % t715))).bind fun (b_ : Int) =>   (((Res.ok a_)).bind fun a727 => (((Res.ok b_)).bind fun a729 => (((((Res.ok x1_)).bind fun a717 => (((Res.ok y1_)).bind fun a719 => (Res.ok ()).bind fun a720 => Res.ok (a719, a720)).bind fun a718 => Res.ok (a717, a718)).bind fun p716 => Res.ok (T2.mk p716.1 p716.2.1)).bind fun a731 => (((((Res.ok x2_)).bind fun a722 => (((Res.ok y2_)).bind fun a724 => (Res.ok ()).bind fun a725 => Res.ok (a724, a725)).bind fun a723 => Res.ok (a722, a723)).bind fun p721 => Res.ok (T2.mk p721.1 p721.2.1)).bind fun a733 => (Res.ok ()).bind fun a734 => Res.ok (a733, a734)).bind fun a732 => Res.ok (a731, a732)).bind fun a730 => Res.ok (a729, a730)).bind fun a728 => Res.ok (a727, a728)).bind fun p726 => Res.ok (T4.mk p726.1 p726.2.1 p726.2.2.1 p726.2.2.2.1)
noncomputable def m_u_law_curve_and_points (script_ : (Ro Int)) (at_ : Int) (prime_ : Int) : Res (T4 Int Int (T2 Int Int) (T2 Int Int)) :=
  ((((((Res.ok script_)).bind fun a643 => (((Res.ok at_)).bind fun a645 => (Res.ok ()).bind fun a646 => Res.ok (a645, a646)).bind fun a644 => Res.ok (a643, a644)).bind fun p642 => m_u_law_cell p642.1 p642.2.1).bind fun a648 => (((Res.ok prime_)).bind fun a650 => (Res.ok ()).bind fun a651 => Res.ok (a650, a651)).bind fun a649 => Res.ok (a648, a649)).bind fun p647 => m_u_law_residue p647.1 p647.2.1).bind fun (x1_ : Int) =>   ((((((Res.ok script_)).bind fun a655 => ((((Res.ok at_)).bind fun (t652 : Int) => ((Res.ok (1 : Int))).bind fun (t653 : Int) => Res.ok (t652 + t653)).bind fun a657 => (Res.ok ()).bind fun a658 => Res.ok (a657, a658)).bind fun a656 => Res.ok (a655, a656)).bind fun p654 => m_u_law_cell p654.1 p654.2.1).bind fun a660 => (((Res.ok prime_)).bind fun a662 => (Res.ok ()).bind fun a663 => Res.ok (a662, a663)).bind fun a661 => Res.ok (a660, a661)).bind fun p659 => m_u_law_residue p659.1 p659.2.1).bind fun (y1_ : Int) =>   ((((((Res.ok script_)).bind fun a667 => ((((Res.ok at_)).bind fun (t664 : Int) => ((Res.ok (2 : Int))).bind fun (t665 : Int) => Res.ok (t664 + t665)).bind fun a669 => (Res.ok ()).bind fun a670 => Res.ok (a669, a670)).bind fun a668 => Res.ok (a667, a668)).bind fun p666 => m_u_law_cell p666.1 p666.2.1).bind fun a672 => (((Res.ok prime_)).bind fun a674 => (Res.ok ()).bind fun a675 => Res.ok (a674, a675)).bind fun a673 => Res.ok (a672, a673)).bind fun p671 => m_u_law_residue p671.1 p671.2.1).bind fun (x2_ : Int) =>   ((((((Res.ok script_)).bind fun a679 => ((((Res.ok at_)).bind fun (t676 : Int) => ((Res.ok (3 : Int))).bind fun (t677 : Int) => Res.ok (t676 + t677)).bind fun a681 => (Res.ok ()).bind fun a682 => Res.ok (a681, a682)).bind fun a680 => Res.ok (a679, a680)).bind fun p678 => m_u_law_cell p678.1 p678.2.1).bind fun a684 => (((Res.ok prime_)).bind fun a686 => (Res.ok ()).bind fun a687 => Res.ok (a686, a687)).bind fun a685 => Res.ok (a684, a685)).bind fun p683 => m_u_law_residue p683.1 p683.2.1).bind fun (y2_ : Int) =>   ((((((Res.ok script_)).bind fun a691 => ((((Res.ok at_)).bind fun (t688 : Int) => ((Res.ok (4 : Int))).bind fun (t689 : Int) => Res.ok (t688 + t689)).bind fun a693 => (Res.ok ()).bind fun a694 => Res.ok (a693, a694)).bind fun a692 => Res.ok (a691, a692)).bind fun p690 => m_u_law_cell p690.1 p690.2.1).bind fun a696 => (((Res.ok prime_)).bind fun a698 => (Res.ok ()).bind fun a699 => Res.ok (a698, a699)).bind fun a697 => Res.ok (a696, a697)).bind fun p695 => m_u_law_residue p695.1 p695.2.1).bind fun (a_ : Int) =>   (((Res.ok x1_)).bind fun (t700 : Int) => ((Res.ok x2_)).bind fun (t701 : Int) => Res.ok (decide (t700 = t701))).bind fun b => cond b   ((((((Res.ok y1_)).bind fun a739 => (((((Res.ok y1_)).bind fun (t735 : Int) => Res.ok (-t735)).bind fun (t736 : Int) => ((Res.ok prime_)).bind fun (t737 : Int) => Res.need (0 < t737) (Res.ok (t736 % t737))).bind fun a741 => (Res.ok ()).bind fun a742 => Res.ok (a741, a742)).bind fun a740 => Res.ok (a739, a740)).bind fun p738 => Res.ok ([p738.1, p738.2.1] : List Int)).bind fun (t755 : (List Int)) => (((((((Res.ok script_)).bind fun a746 => ((((Res.ok at_)).bind fun (t743 : Int) => ((Res.ok (3 : Int))).bind fun (t744 : Int) => Res.ok (t743 + t744)).bind fun a748 => (Res.ok ()).bind fun a749 => Res.ok (a748, a749)).bind fun a747 => Res.ok (a746, a747)).bind fun p745 => m_u_law_cell p745.1 p745.2.1).bind fun a751 => (Res.ok ()).bind fun a752 => Res.ok (a751, a752)).bind fun p750 => Res.ok (Int.natAbs p750.1 : Int)).bind fun (t753 : Int) => ((Res.ok (2 : Int))).bind fun (t754 : Int) => Res.ok (t753 % t754)).bind fun (t756 : Int) => idx t755 t756).bind fun (y2_ : Int) =>   (m_u_law_curve_and_points_k1 prime_ x1_ y1_ x2_) (y2_, a_))   (((((((((Res.ok y2_)).bind fun (t757 : Int) => ((Res.ok y2_)).bind fun (t758 : Int) => Res.need (CMulX t757 t758) (Res.ok (t757 * t758))).bind fun (t763 : Int) => ((((Res.ok x2_)).bind fun (t759 : Int) => ((Res.ok x2_)).bind fun (t760 : Int) => Res.need (CMulX t759 t760) (Res.ok (t759 * t760))).bind fun (t761 : Int) => ((Res.ok x2_)).bind fun (t762 : Int) => Res.need (CMulX t761 t762) (Res.ok (t761 * t762))).bind fun (t764 : Int) => Res.ok (t763 - t764)).bind fun (t767 : Int) => (((Res.ok y1_)).bind fun (t765 : Int) => ((Res.ok y1_)).bind fun (t766 : Int) => Res.need (CMulX t765 t766) (Res.ok (t765 * t766))).bind fun (t768 : Int) => Res.ok (t767 - t768)).bind fun (t773 : Int) => ((((Res.ok x1_)).bind fun (t769 : Int) => ((Res.ok x1_)).bind fun (t770 : Int) => Res.need (CMulX t769 t770) (Res.ok (t769 * t770))).bind fun (t771 : Int) => ((Res.ok x1_)).bind fun (t772 : Int) => Res.need (CMulX t771 t772) (Res.ok (t771 * t772))).bind fun (t774 : Int) => Res.ok (t773 + t774)).bind fun (t782 : Int) => (((((Res.ok x2_)).bind fun (t775 : Int) => ((Res.ok x1_)).bind fun (t776 : Int) => Res.ok (t775 - t776)).bind fun a778 => (((Res.ok prime_)).bind fun a780 => (Res.ok ()).bind fun a781 => Res.ok (a780, a781)).bind fun a779 => Res.ok (a778, a779)).bind fun p777 => m_u_law_inverse p777.1 p777.2.1).bind fun (t783 : Int) => Res.need (CMulX t782 t783) (Res.ok (t782 * t783))).bind fun (t784 : Int) => ((Res.ok prime_)).bind fun (t785 : Int) => Res.need (0 < t785) (Res.ok (t784 % t785))).bind fun (a_ : Int) =>   (m_u_law_curve_and_points_k1 prime_ x1_ y1_ x2_) (y2_, a_))
theorem ok_u_law_curve_and_points {P : Program} {w : World} {K : PySem.W.Frag} {mg : Str → Option Value} {base : Heap} (T : Facts K mg) {fd : FuncData} (F : FnP K "_law_curve_and_points" "_law_curve_and_points" s_u_law_curve_and_points (He.ga K "_law_curve_and_points") fd) :
    FnOk P w K mg base (L2.CX P w) 3 (He.ga K "_law_curve_and_points") fd ["script", "at", "prime"] (spM K (fun (p : (Ro Int) × Int × Int × Unit) => m_u_law_curve_and_points p.1 p.2.1 p.2.2.1)) := by
  obtain ⟨fd_u_law_cell, F_u_law_cell⟩ := T.d_u_law_cell
  have G_u_law_cell := ok_u_law_cell (P := P) (w := w) (base := base) T F_u_law_cell
  have b_u_law_cell : Binds K fd_u_law_cell ["script", "k"] [] := F_u_law_cell.bindsN fun _ _ _ _ _ _ us hl => match us, hl with | [_, _], _ => rfl
  obtain ⟨fd_u_law_inverse, F_u_law_inverse⟩ := T.d_u_law_inverse
  have G_u_law_inverse := ok_u_law_inverse (P := P) (w := w) (base := base) T F_u_law_inverse
  have b_u_law_inverse : Binds K fd_u_law_inverse ["a", "prime"] [] := F_u_law_inverse.bindsN fun _ _ _ _ _ _ us hl => match us, hl with | [_, _], _ => rfl
  obtain ⟨fd_u_law_residue, F_u_law_residue⟩ := T.d_u_law_residue
  have G_u_law_residue := ok_u_law_residue (P := P) (w := w) (base := base) T F_u_law_residue
  have b_u_law_residue : Binds K fd_u_law_residue ["cell", "prime"] [] := F_u_law_residue.bindsN fun _ _ _ _ _ _ us hl => match us, hl with | [_, _], _ => rfl
  refine fn_ok F sc_u_law_curve_and_points (fun y => rfl) (fun cdv A outer s H E hr => ?_)
  refine ⟨_, (pss_cons (ps_set (i := 3) sc_u_law_curve_and_points.nd rfl (Or.inl rfl) (pe_callS G_u_law_residue (hr.mono (by decide)) rfl T.g_u_law_residue F_u_law_residue.kp b_u_law_residue (fun σ => passAt (takes_of rfl rfl rfl rfl) σ) (pa_cons (pe_callS G_u_law_cell (hr.mono (by decide)) rfl T.g_u_law_cell F_u_law_cell.kp b_u_law_cell (fun σ => passAt (takes_of rfl rfl rfl rfl) σ) (pa_cons (pv 0) (pa_cons (pv 1) pa_nil))) (pa_cons (pv 2) pa_nil)))) (pss_cons (ps_set (i := 4) sc_u_law_curve_and_points.nd rfl (Or.inl rfl) (pe_callS G_u_law_residue (hr.mono (by decide)) rfl T.g_u_law_residue F_u_law_residue.kp b_u_law_residue (fun σ => passAt (takes_of rfl rfl rfl rfl) σ) (pa_cons (pe_callS G_u_law_cell (hr.mono (by decide)) rfl T.g_u_law_cell F_u_law_cell.kp b_u_law_cell (fun σ => passAt (takes_of rfl rfl rfl rfl) σ) (pa_cons (pv 0) (pa_cons (pe_op op_add (pv 1) pe_int) pa_nil))) (pa_cons (pv 2) pa_nil)))) (pss_cons (ps_set (i := 5) sc_u_law_curve_and_points.nd rfl (Or.inl rfl) (pe_callS G_u_law_residue (hr.mono (by decide)) rfl T.g_u_law_residue F_u_law_residue.kp b_u_law_residue (fun σ => passAt (takes_of rfl rfl rfl rfl) σ) (pa_cons (pe_callS G_u_law_cell (hr.mono (by decide)) rfl T.g_u_law_cell F_u_law_cell.kp b_u_law_cell (fun σ => passAt (takes_of rfl rfl rfl rfl) σ) (pa_cons (pv 0) (pa_cons (pe_op op_add (pv 1) pe_int) pa_nil))) (pa_cons (pv 2) pa_nil)))) (pss_cons (ps_set (i := 6) sc_u_law_curve_and_points.nd rfl (Or.inl rfl) (pe_callS G_u_law_residue (hr.mono (by decide)) rfl T.g_u_law_residue F_u_law_residue.kp b_u_law_residue (fun σ => passAt (takes_of rfl rfl rfl rfl) σ) (pa_cons (pe_callS G_u_law_cell (hr.mono (by decide)) rfl T.g_u_law_cell F_u_law_cell.kp b_u_law_cell (fun σ => passAt (takes_of rfl rfl rfl rfl) σ) (pa_cons (pv 0) (pa_cons (pe_op op_add (pv 1) pe_int) pa_nil))) (pa_cons (pv 2) pa_nil)))) (pss_cons (ps_set (i := 7) sc_u_law_curve_and_points.nd rfl (Or.inl rfl) (pe_callS G_u_law_residue (hr.mono (by decide)) rfl T.g_u_law_residue F_u_law_residue.kp b_u_law_residue (fun σ => passAt (takes_of rfl rfl rfl rfl) σ) (pa_cons (pe_callS G_u_law_cell (hr.mono (by decide)) rfl T.g_u_law_cell F_u_law_cell.kp b_u_law_cell (fun σ => passAt (takes_of rfl rfl rfl rfl) σ) (pa_cons (pv 0) (pa_cons (pe_op op_add (pv 1) pe_int) pa_nil))) (pa_cons (pv 2) pa_nil)))) (pss_cons (ps_if (pt_cmpR op_eq (pv 3) (pv 5) (nomark _)) (pss_one (ps_set (i := 6) sc_u_law_curve_and_points.nd rfl (Or.inl rfl) (pe_ix (cr_ixL rfl) (pe_lst (pa_cons (pv 4) (pa_cons (pe_op op_mod (pe_un un_neg (pv 4)) (pv 2)) pa_nil))) (pe_op op_mod (pe_callB call_abs (by rfl) T.n_abs (by decide +kernel) (pa_cons (pe_callS G_u_law_cell (hr.mono (by decide)) rfl T.g_u_law_cell F_u_law_cell.kp b_u_law_cell (fun σ => passAt (takes_of rfl rfl rfl rfl) σ) (pa_cons (pv 0) (pa_cons (pe_op op_add (pv 1) pe_int) pa_nil))) pa_nil)) pe_int) (fun _ _ => rfl)))) (pss_one (ps_set (i := 7) sc_u_law_curve_and_points.nd rfl (Or.inl rfl) (pe_op op_mod (pe_op op_mulX (pe_op op_add (pe_op op_sub (pe_op op_sub (pe_op op_mulX (pv 6) (pv 6)) (pe_op op_mulX (pe_op op_mulX (pv 5) (pv 5)) (pv 5))) (pe_op op_mulX (pv 4) (pv 4))) (pe_op op_mulX (pe_op op_mulX (pv 3) (pv 3)) (pv 3))) (pe_callS G_u_law_inverse (hr.mono (by decide)) rfl T.g_u_law_inverse F_u_law_inverse.kp b_u_law_inverse (fun σ => passAt (takes_of rfl rfl rfl rfl) σ) (pa_cons (pe_op op_sub (pv 5) (pv 3)) (pa_cons (pv 2) pa_nil)))) (pv 2))))) (pss_cons (ps_set (i := 8) sc_u_law_curve_and_points.nd rfl (Or.inl rfl) (pe_op op_mod (pe_op op_sub (pe_op op_sub (pe_op op_mulX (pv 4) (pv 4)) (pe_op op_mulX (pe_op op_mulX (pv 3) (pv 3)) (pv 3))) (pe_op op_mulX (pv 7) (pv 3))) (pv 2))) (pss_one (ps_ret (pe_tup (pa_cons (pv 7) (pa_cons (pv 8) (pa_cons (pe_tup (pa_cons (pv 3) (pa_cons (pv 4) pa_nil))) (pa_cons (pe_tup (pa_cons (pv 5) (pa_cons (pv 6) pa_nil))) pa_nil)))))))))))))), ?_⟩
  rintro ⟨script_, at_, prime_, ⟨⟩⟩ F0 H0 Q KP L
  show Blk K F0 H0 KP _ [some (.im (toD script_)), some (.im (toD at_)), some (.im (toD prime_)), none, none, none, none, none, none] (m_u_law_curve_and_points script_ at_ prime_)
  unfold m_u_law_curve_and_points
  have hs_ := ((ev_call (f := (fun (p : Int × Int × Unit) => m_u_law_residue p.1 p.2.1)) (ea_cons (ev_call (f := (fun (p : (Ro Int) × Int × Unit) => m_u_law_cell p.1 p.2.1)) (ea_cons (ev_var (i := 0) (x := script_) rfl) (ea_cons (ev_var (i := 1) (x := at_) rfl) ea_nil))) (ea_cons (ev_var (i := 2) (x := prime_) rfl) ea_nil))) : EvX K (W0 E) [some (.im (toD script_)), some (.im (toD at_)), some (.im (toD prime_)), none, none, none, none, none, none] _ _)
  refine blk_seq (blk_set (i := 3) L trivial hs_ fun x1_ => ?_)
  show Blk _ _ _ _ _ [some (.im (toD script_)), some (.im (toD at_)), some (.im (toD prime_)), some (.im (toD x1_)), none, none, none, none, none] _
  try refine Blk.nx ?_
  have hs_ := ((ev_call (f := (fun (p : Int × Int × Unit) => m_u_law_residue p.1 p.2.1)) (ea_cons (ev_call (f := (fun (p : (Ro Int) × Int × Unit) => m_u_law_cell p.1 p.2.1)) (ea_cons (ev_var (i := 0) (x := script_) rfl) (ea_cons (ev_op (opx_I0 (g := fun i j => i + j)) mild_ok (ev_var (i := 1) (x := at_) rfl) (ev_int (i := 1))) ea_nil))) (ea_cons (ev_var (i := 2) (x := prime_) rfl) ea_nil))) : EvX K (W0 E) [some (.im (toD script_)), some (.im (toD at_)), some (.im (toD prime_)), some (.im (toD x1_)), none, none, none, none, none] _ _)
  refine blk_seq (blk_set (i := 4) L trivial hs_ fun y1_ => ?_)
  show Blk _ _ _ _ _ [some (.im (toD script_)), some (.im (toD at_)), some (.im (toD prime_)), some (.im (toD x1_)), some (.im (toD y1_)), none, none, none, none] _
  try refine Blk.nx ?_
  have hs_ := ((ev_call (f := (fun (p : Int × Int × Unit) => m_u_law_residue p.1 p.2.1)) (ea_cons (ev_call (f := (fun (p : (Ro Int) × Int × Unit) => m_u_law_cell p.1 p.2.1)) (ea_cons (ev_var (i := 0) (x := script_) rfl) (ea_cons (ev_op (opx_I0 (g := fun i j => i + j)) mild_ok (ev_var (i := 1) (x := at_) rfl) (ev_int (i := 2))) ea_nil))) (ea_cons (ev_var (i := 2) (x := prime_) rfl) ea_nil))) : EvX K (W0 E) [some (.im (toD script_)), some (.im (toD at_)), some (.im (toD prime_)), some (.im (toD x1_)), some (.im (toD y1_)), none, none, none, none] _ _)
  refine blk_seq (blk_set (i := 5) L trivial hs_ fun x2_ => ?_)
  show Blk _ _ _ _ _ [some (.im (toD script_)), some (.im (toD at_)), some (.im (toD prime_)), some (.im (toD x1_)), some (.im (toD y1_)), some (.im (toD x2_)), none, none, none] _
  try refine Blk.nx ?_
  have hs_ := ((ev_call (f := (fun (p : Int × Int × Unit) => m_u_law_residue p.1 p.2.1)) (ea_cons (ev_call (f := (fun (p : (Ro Int) × Int × Unit) => m_u_law_cell p.1 p.2.1)) (ea_cons (ev_var (i := 0) (x := script_) rfl) (ea_cons (ev_op (opx_I0 (g := fun i j => i + j)) mild_ok (ev_var (i := 1) (x := at_) rfl) (ev_int (i := 3))) ea_nil))) (ea_cons (ev_var (i := 2) (x := prime_) rfl) ea_nil))) : EvX K (W0 E) [some (.im (toD script_)), some (.im (toD at_)), some (.im (toD prime_)), some (.im (toD x1_)), some (.im (toD y1_)), some (.im (toD x2_)), none, none, none] _ _)
  refine blk_seq (blk_set (i := 6) L trivial hs_ fun y2_ => ?_)
  show Blk _ _ _ _ _ [some (.im (toD script_)), some (.im (toD at_)), some (.im (toD prime_)), some (.im (toD x1_)), some (.im (toD y1_)), some (.im (toD x2_)), some (.im (toD y2_)), none, none] _
  try refine Blk.nx ?_
  have hs_ := ((ev_call (f := (fun (p : Int × Int × Unit) => m_u_law_residue p.1 p.2.1)) (ea_cons (ev_call (f := (fun (p : (Ro Int) × Int × Unit) => m_u_law_cell p.1 p.2.1)) (ea_cons (ev_var (i := 0) (x := script_) rfl) (ea_cons (ev_op (opx_I0 (g := fun i j => i + j)) mild_ok (ev_var (i := 1) (x := at_) rfl) (ev_int (i := 4))) ea_nil))) (ea_cons (ev_var (i := 2) (x := prime_) rfl) ea_nil))) : EvX K (W0 E) [some (.im (toD script_)), some (.im (toD at_)), some (.im (toD prime_)), some (.im (toD x1_)), some (.im (toD y1_)), some (.im (toD x2_)), some (.im (toD y2_)), none, none] _ _)
  refine blk_seq (blk_set (i := 7) L trivial hs_ fun a_ => ?_)
  show Blk _ _ _ _ _ [some (.im (toD script_)), some (.im (toD at_)), some (.im (toD prime_)), some (.im (toD x1_)), some (.im (toD y1_)), some (.im (toD x2_)), some (.im (toD y2_)), some (.im (toD a_)), none] _
  try refine Blk.nx ?_
  have ht_ := ((et_test (ev_op opx_eqI mild_ok (ev_var (i := 3) (x := x1_) rfl) (ev_var (i := 5) (x := x2_) rfl))) : EvT K (W0 E) [some (.im (toD script_)), some (.im (toD at_)), some (.im (toD prime_)), some (.im (toD x1_)), some (.im (toD y1_)), some (.im (toD x2_)), some (.im (toD y2_)), some (.im (toD a_)), none] _ _)
  refine blk_seq (blk_ifj (S := Int × Int) (fun (y2_, a_) => [some (.im (toD script_)), some (.im (toD at_)), some (.im (toD prime_)), some (.im (toD x1_)), some (.im (toD y1_)), some (.im (toD x2_)), some (.im (toD y2_)), some (.im (toD a_)), none]) (m_u_law_curve_and_points_k1 prime_ x1_ y1_ x2_) L trivial ht_ ?_ ?_ ?_)
  · rintro ⟨y2_, a_⟩
    show Blk _ _ _ _ _ [some (.im (toD script_)), some (.im (toD at_)), some (.im (toD prime_)), some (.im (toD x1_)), some (.im (toD y1_)), some (.im (toD x2_)), some (.im (toD y2_)), some (.im (toD a_)), none] ((m_u_law_curve_and_points_k1 prime_ x1_ y1_ x2_) (y2_, a_))
    unfold m_u_law_curve_and_points_k1
    try refine Blk.nx ?_
    have hs_ := ((ev_op (opx_I (C := (fun _ j => 0 < j)) (g := fun i j => i % j)) mild_need (ev_op (opx_I0 (g := fun i j => i - j)) mild_ok (ev_op (opx_I0 (g := fun i j => i - j)) mild_ok (ev_op (opx_I (C := CMulX) (g := fun i j => i * j)) mild_need (ev_var (i := 4) (x := y1_) rfl) (ev_var (i := 4) (x := y1_) rfl)) (ev_op (opx_I (C := CMulX) (g := fun i j => i * j)) mild_need (ev_op (opx_I (C := CMulX) (g := fun i j => i * j)) mild_need (ev_var (i := 3) (x := x1_) rfl) (ev_var (i := 3) (x := x1_) rfl)) (ev_var (i := 3) (x := x1_) rfl))) (ev_op (opx_I (C := CMulX) (g := fun i j => i * j)) mild_need (ev_var (i := 7) (x := a_) rfl) (ev_var (i := 3) (x := x1_) rfl))) (ev_var (i := 2) (x := prime_) rfl)) : EvX K (W0 E) [some (.im (toD script_)), some (.im (toD at_)), some (.im (toD prime_)), some (.im (toD x1_)), some (.im (toD y1_)), some (.im (toD x2_)), some (.im (toD y2_)), some (.im (toD a_)), none] _ _)
    refine blk_seq (blk_set (i := 8) L trivial hs_ fun b_ => ?_)
    show Blk _ _ _ _ _ [some (.im (toD script_)), some (.im (toD at_)), some (.im (toD prime_)), some (.im (toD x1_)), some (.im (toD y1_)), some (.im (toD x2_)), some (.im (toD y2_)), some (.im (toD a_)), some (.im (toD b_))] _
    try refine Blk.nx ?_
    have hr_ := ((ev_tup (f := (fun y => T4.mk y.1 y.2.1 y.2.2.1 y.2.2.2.1)) (ea_cons (ev_var (i := 7) (x := a_) rfl) (ea_cons (ev_var (i := 8) (x := b_) rfl) (ea_cons (ev_tup (f := (fun y => T2.mk y.1 y.2.1)) (ea_cons (ev_var (i := 3) (x := x1_) rfl) (ea_cons (ev_var (i := 4) (x := y1_) rfl) ea_nil)) (fun _ => rfl) (fun _ => by show 2 ≤ 100000; decide)) (ea_cons (ev_tup (f := (fun y => T2.mk y.1 y.2.1)) (ea_cons (ev_var (i := 5) (x := x2_) rfl) (ea_cons (ev_var (i := 6) (x := y2_) rfl) ea_nil)) (fun _ => rfl) (fun _ => by show 2 ≤ 100000; decide)) ea_nil)))) (fun _ => rfl) (fun _ => by show 4 ≤ 100000; decide)) : EvX K (W0 E) [some (.im (toD script_)), some (.im (toD at_)), some (.im (toD prime_)), some (.im (toD x1_)), some (.im (toD y1_)), some (.im (toD x2_)), some (.im (toD y2_)), some (.im (toD a_)), some (.im (toD b_))] _ _)
    exact blk_ret L trivial hr_
  · intro hk1
    have hs_ := ((ev_op opx_ixL (fun x y => idx_mild x y) (ev_ofN (en_lst (f := (fun y => ([y.1, y.2.1] : List Int))) (ea_cons (ev_var (i := 4) (x := y1_) rfl) (ea_cons (ev_op (opx_I (C := (fun _ j => 0 < j)) (g := fun i j => i % j)) mild_need (ev_un (g := fun i => -i) (ev_var (i := 4) (x := y1_) rfl)) (ev_var (i := 2) (x := prime_) rfl)) ea_nil)) (fun _ => rfl) (fun _ => by show 2 ≤ 100000; decide))) (ev_opI (C := (fun _ j => 0 < j)) (g := fun i j => i % j) (fun x y _ h => by cases h; (show (0 : Int) < _; decide)) (ev_cb cx_abs (fun _ _ h => nomatch h) (ea_cons (ev_call (f := (fun (p : (Ro Int) × Int × Unit) => m_u_law_cell p.1 p.2.1)) (ea_cons (ev_var (i := 0) (x := script_) rfl) (ea_cons (ev_op (opx_I0 (g := fun i j => i + j)) mild_ok (ev_var (i := 1) (x := at_) rfl) (ev_int (i := 3))) ea_nil))) ea_nil)) (ev_int (i := 2)))) : EvX K (W0 E) [some (.im (toD script_)), some (.im (toD at_)), some (.im (toD prime_)), some (.im (toD x1_)), some (.im (toD y1_)), some (.im (toD x2_)), some (.im (toD y2_)), some (.im (toD a_)), none] _ _)
    refine blk_set (i := 6) L trivial hs_ fun y2_ => ?_
    show Blk _ _ _ _ _ [some (.im (toD script_)), some (.im (toD at_)), some (.im (toD prime_)), some (.im (toD x1_)), some (.im (toD y1_)), some (.im (toD x2_)), some (.im (toD y2_)), some (.im (toD a_)), none] _
    try refine Blk.nx ?_
    exact (hk1 (y2_, a_)).weak (.same (.same (.same (.same (.same (.same (.same (.same (.same .nil)))))))))
  · intro hk1
    have hs_ := ((ev_op (opx_I (C := (fun _ j => 0 < j)) (g := fun i j => i % j)) mild_need (ev_op (opx_I (C := CMulX) (g := fun i j => i * j)) mild_need (ev_op (opx_I0 (g := fun i j => i + j)) mild_ok (ev_op (opx_I0 (g := fun i j => i - j)) mild_ok (ev_op (opx_I0 (g := fun i j => i - j)) mild_ok (ev_op (opx_I (C := CMulX) (g := fun i j => i * j)) mild_need (ev_var (i := 6) (x := y2_) rfl) (ev_var (i := 6) (x := y2_) rfl)) (ev_op (opx_I (C := CMulX) (g := fun i j => i * j)) mild_need (ev_op (opx_I (C := CMulX) (g := fun i j => i * j)) mild_need (ev_var (i := 5) (x := x2_) rfl) (ev_var (i := 5) (x := x2_) rfl)) (ev_var (i := 5) (x := x2_) rfl))) (ev_op (opx_I (C := CMulX) (g := fun i j => i * j)) mild_need (ev_var (i := 4) (x := y1_) rfl) (ev_var (i := 4) (x := y1_) rfl))) (ev_op (opx_I (C := CMulX) (g := fun i j => i * j)) mild_need (ev_op (opx_I (C := CMulX) (g := fun i j => i * j)) mild_need (ev_var (i := 3) (x := x1_) rfl) (ev_var (i := 3) (x := x1_) rfl)) (ev_var (i := 3) (x := x1_) rfl))) (ev_call (f := (fun (p : Int × Int × Unit) => m_u_law_inverse p.1 p.2.1)) (ea_cons (ev_op (opx_I0 (g := fun i j => i - j)) mild_ok (ev_var (i := 5) (x := x2_) rfl) (ev_var (i := 3) (x := x1_) rfl)) (ea_cons (ev_var (i := 2) (x := prime_) rfl) ea_nil)))) (ev_var (i := 2) (x := prime_) rfl)) : EvX K (W0 E) [some (.im (toD script_)), some (.im (toD at_)), some (.im (toD prime_)), some (.im (toD x1_)), some (.im (toD y1_)), some (.im (toD x2_)), some (.im (toD y2_)), some (.im (toD a_)), none] _ _)
    refine blk_set (i := 7) L trivial hs_ fun a_ => ?_
    show Blk _ _ _ _ _ [some (.im (toD script_)), some (.im (toD at_)), some (.im (toD prime_)), some (.im (toD x1_)), some (.im (toD y1_)), some (.im (toD x2_)), some (.im (toD y2_)), some (.im (toD a_)), none] _
    try refine Blk.nx ?_
    exact (hk1 (y2_, a_)).weak (.same (.same (.same (.same (.same (.same (.same (.same (.same .nil)))))))))
noncomputable def m_u_law_add_k4 (prime_ : Int) (x1_ : Int) (y1_ : Int) (x2_ : Int) : Int → Res (Option (T2 Int Int)) := fun slope_ =>   ((((((Res.ok slope_)).bind fun (t820 : Int) => ((Res.ok slope_)).bind fun (t821 : Int) => Res.need (CMulX t820 t821) (Res.ok (t820 * t821))).bind fun (t822 : Int) => ((Res.ok x1_)).bind fun (t823 : Int) => Res.ok (t822 - t823)).bind fun (t824 : Int) => ((Res.ok x2_)).bind fun (t825 : Int) => Res.ok (t824 - t825)).bind fun (t826 : Int) => ((Res.ok prime_)).bind fun (t827 : Int) => Res.need (0 < t827) (Res.ok (t826 % t827))).bind fun (x3_ : Int) =>   ((((Res.ok x3_)).bind fun a837 => ((((((Res.ok slope_)).bind fun (t830 : Int) => (((Res.ok x1_)).bind fun (t828 : Int) => ((Res.ok x3_)).bind fun (t829 : Int) => Res.ok (t828 - t829)).bind fun (t831 : Int) => Res.need (CMulX t830 t831) (Res.ok (t830 * t831))).bind fun (t832 : Int) => ((Res.ok y1_)).bind fun (t833 : Int) => Res.ok (t832 - t833)).bind fun (t834 : Int) => ((Res.ok prime_)).bind fun (t835 : Int) => Res.need (0 < t835) (Res.ok (t834 % t835))).bind fun a839 => (Res.ok ()).bind fun a840 => Res.ok (a839, a840)).bind fun a838 => Res.ok (a837, a838)).bind fun p836 => Res.ok (T2.mk p836.1 p836.2.1)).bind fun (x : (T2 Int Int)) => Res.ok (some x)
noncomputable def m_u_law_add (prime_ : Int) (a_ : Int) (first_ : (Option (T2 Int Int))) (second_ : (Option (T2 Int Int))) : Res (Option (T2 Int Int)) :=
  (((Res.ok first_)).bind fun (t786 : (Option (T2 Int Int))) => ((Res.ok ())).bind fun (t787 : Unit) => Res.ok (toD t786).isNon).bind fun b => cond b   ((Res.ok second_))   ((((Res.ok second_)).bind fun (t788 : (Option (T2 Int Int))) => ((Res.ok ())).bind fun (t789 : Unit) => Res.ok (toD t788).isNon).bind fun b => cond b   ((Res.ok first_))   ((((Res.ok first_)).bind optGet).bind fun (u790 : (T2 Int Int)) =>   (fun (x1_ : Int) (y1_ : Int) => (((Res.ok second_)).bind optGet).bind fun (u791 : (T2 Int Int)) =>   (fun (x2_ : Int) (y2_ : Int) => ((((Res.ok x1_)).bind fun (t792 : Int) => ((Res.ok x2_)).bind fun (t793 : Int) => Res.ok (decide (t792 = t793))).bind fun b800 => cond b800 (((((Res.ok y1_)).bind fun (t794 : Int) => ((Res.ok y2_)).bind fun (t795 : Int) => Res.ok (t794 + t795)).bind fun (t796 : Int) => ((Res.ok prime_)).bind fun (t797 : Int) => Res.need (0 < t797) (Res.ok (t796 % t797))).bind fun (t798 : Int) => ((Res.ok (0 : Int))).bind fun (t799 : Int) => Res.ok (decide (t798 = t799))) (Res.ok false)).bind fun b => cond b   ((Res.ok (none : (Option (T2 Int Int)))))   ((((Res.ok x1_)).bind fun (t801 : Int) => ((Res.ok x2_)).bind fun (t802 : Int) => Res.ok (decide (t801 = t802))).bind fun b => cond b   ((((((((Res.ok (3 : Int))).bind fun (t841 : Int) => ((Res.ok x1_)).bind fun (t842 : Int) => Res.ok (t841 * t842)).bind fun (t843 : Int) => ((Res.ok x1_)).bind fun (t844 : Int) => Res.need (CMulX t843 t844) (Res.ok (t843 * t844))).bind fun (t845 : Int) => ((Res.ok a_)).bind fun (t846 : Int) => Res.ok (t845 + t846)).bind fun (t854 : Int) => (((((Res.ok (2 : Int))).bind fun (t847 : Int) => ((Res.ok y1_)).bind fun (t848 : Int) => Res.ok (t847 * t848)).bind fun a850 => (((Res.ok prime_)).bind fun a852 => (Res.ok ()).bind fun a853 => Res.ok (a852, a853)).bind fun a851 => Res.ok (a850, a851)).bind fun p849 => m_u_law_inverse p849.1 p849.2.1).bind fun (t855 : Int) => Res.need (CMulX t854 t855) (Res.ok (t854 * t855))).bind fun (t856 : Int) => ((Res.ok prime_)).bind fun (t857 : Int) => Res.need (0 < t857) (Res.ok (t856 % t857))).bind fun (slope_ : Int) =>   (m_u_law_add_k4 prime_ x1_ y1_ x2_) slope_)   ((((((Res.ok y2_)).bind fun (t858 : Int) => ((Res.ok y1_)).bind fun (t859 : Int) => Res.ok (t858 - t859)).bind fun (t867 : Int) => (((((Res.ok x2_)).bind fun (t860 : Int) => ((Res.ok x1_)).bind fun (t861 : Int) => Res.ok (t860 - t861)).bind fun a863 => (((Res.ok prime_)).bind fun a865 => (Res.ok ()).bind fun a866 => Res.ok (a865, a866)).bind fun a864 => Res.ok (a863, a864)).bind fun p862 => m_u_law_inverse p862.1 p862.2.1).bind fun (t868 : Int) => Res.need (CMulX t867 t868) (Res.ok (t867 * t868))).bind fun (t869 : Int) => ((Res.ok prime_)).bind fun (t870 : Int) => Res.need (0 < t870) (Res.ok (t869 % t870))).bind fun (slope_ : Int) =>   (m_u_law_add_k4 prime_ x1_ y1_ x2_) slope_))) u791.a u791.b) u790.a u790.b))
theorem ok_u_law_add {P : Program} {w : World} {K : PySem.W.Frag} {mg : Str → Option Value} {base : Heap} (T : Facts K mg) {fd : FuncData} (F : FnP K "_law_add" "_law_add" s_u_law_add (He.ga K "_law_add") fd) :
    FnOk P w K mg base (L2.CX P w) 3 (He.ga K "_law_add") fd ["prime", "a", "first", "second"] (spM K (fun (p : Int × Int × (Option (T2 Int Int)) × (Option (T2 Int Int)) × Unit) => m_u_law_add p.1 p.2.1 p.2.2.1 p.2.2.2.1)) := by
  obtain ⟨fd_u_law_inverse, F_u_law_inverse⟩ := T.d_u_law_inverse
  have G_u_law_inverse := ok_u_law_inverse (P := P) (w := w) (base := base) T F_u_law_inverse
  have b_u_law_inverse : Binds K fd_u_law_inverse ["a", "prime"] [] := F_u_law_inverse.bindsN fun _ _ _ _ _ _ us hl => match us, hl with | [_, _], _ => rfl
  refine fn_ok F sc_u_law_add (fun y => rfl) (fun cdv A outer s H E hr => ?_)
  refine ⟨_, (pss_cons (ps_if (pt_cmpR op_isN (pv 2) pe_non (nomark _)) (pss_one (ps_ret (pv 3))) pss_nil) (pss_cons (ps_if (pt_cmpR op_isN (pv 3) pe_non (nomark _)) (pss_one (ps_ret (pv 2))) pss_nil) (pss_cons (ps_asg (pv 2) (pg_tup rfl (pgs_cons (pg_name (i := 4) sc_u_law_add.nd rfl (Or.inl rfl)) (pgs_cons (pg_name (i := 5) sc_u_law_add.nd rfl (Or.inl rfl)) pgs_nil)))) (pss_cons (ps_asg (pv 3) (pg_tup rfl (pgs_cons (pg_name (i := 6) sc_u_law_add.nd rfl (Or.inl rfl)) (pgs_cons (pg_name (i := 7) sc_u_law_add.nd rfl (Or.inl rfl)) pgs_nil)))) (pss_cons (ps_if (PW.pt (pw_and (pt_cmpR op_eq (pv 4) (pv 6) (nomark _)) (pw_and1 (pt_cmpR op_eq (pe_op op_mod (pe_op op_add (pv 5) (pv 7)) (pv 0)) pe_int (nomark _))))) (pss_one (ps_ret pe_non)) pss_nil) (pss_cons (ps_if (pt_cmpR op_eq (pv 4) (pv 6) (nomark _)) (pss_one (ps_set (i := 8) sc_u_law_add.nd rfl (Or.inl rfl) (pe_op op_mod (pe_op op_mulX (pe_op op_add (pe_op op_mulX (pe_op op_mul pe_int (pv 4)) (pv 4)) (pv 1)) (pe_callS G_u_law_inverse (hr.mono (by decide)) rfl T.g_u_law_inverse F_u_law_inverse.kp b_u_law_inverse (fun σ => passAt (takes_of rfl rfl rfl rfl) σ) (pa_cons (pe_op op_mul pe_int (pv 5)) (pa_cons (pv 0) pa_nil)))) (pv 0)))) (pss_one (ps_set (i := 8) sc_u_law_add.nd rfl (Or.inl rfl) (pe_op op_mod (pe_op op_mulX (pe_op op_sub (pv 7) (pv 5)) (pe_callS G_u_law_inverse (hr.mono (by decide)) rfl T.g_u_law_inverse F_u_law_inverse.kp b_u_law_inverse (fun σ => passAt (takes_of rfl rfl rfl rfl) σ) (pa_cons (pe_op op_sub (pv 6) (pv 4)) (pa_cons (pv 0) pa_nil)))) (pv 0))))) (pss_cons (ps_set (i := 9) sc_u_law_add.nd rfl (Or.inl rfl) (pe_op op_mod (pe_op op_sub (pe_op op_sub (pe_op op_mulX (pv 8) (pv 8)) (pv 4)) (pv 6)) (pv 0))) (pss_one (ps_ret (pe_tup (pa_cons (pv 9) (pa_cons (pe_op op_mod (pe_op op_sub (pe_op op_mulX (pv 8) (pe_op op_sub (pv 4) (pv 9))) (pv 5)) (pv 0)) pa_nil)))))))))))), ?_⟩
  rintro ⟨prime_, a_, first_, second_, ⟨⟩⟩ F0 H0 Q KP L
  show Blk K F0 H0 KP _ [some (.im (toD prime_)), some (.im (toD a_)), some (.im (toD first_)), some (.im (toD second_)), none, none, none, none, none, none] (m_u_law_add prime_ a_ first_ second_)
  unfold m_u_law_add
  have ht_ := ((et_test (ev_op opx_isN mild_ok (ev_var (i := 2) (x := first_) rfl) ev_non)) : EvT K (W0 E) [some (.im (toD prime_)), some (.im (toD a_)), some (.im (toD first_)), some (.im (toD second_)), none, none, none, none, none, none] _ _)
  refine blk_seq (blk_if2 L trivial ht_ ?_ ?_)
  · have hr_ := ((ev_var (i := 3) (x := second_) rfl) : EvX K (W0 E) [some (.im (toD prime_)), some (.im (toD a_)), some (.im (toD first_)), some (.im (toD second_)), none, none, none, none, none, none] _ _)
    exact blk_ret L trivial hr_
  · refine blk_nil ?_
    try refine Blk.nx ?_
    have ht_ := ((et_test (ev_op opx_isN mild_ok (ev_var (i := 3) (x := second_) rfl) ev_non)) : EvT K (W0 E) [some (.im (toD prime_)), some (.im (toD a_)), some (.im (toD first_)), some (.im (toD second_)), none, none, none, none, none, none] _ _)
    refine blk_seq (blk_if2 L trivial ht_ ?_ ?_)
    · have hr_ := ((ev_var (i := 2) (x := first_) rfl) : EvX K (W0 E) [some (.im (toD prime_)), some (.im (toD a_)), some (.im (toD first_)), some (.im (toD second_)), none, none, none, none, none, none] _ _)
      exact blk_ret L trivial hr_
    · refine blk_nil ?_
      try refine Blk.nx ?_
      have hs_ := ((ev_castG (f := optGet) optGet_ok optGet_x (ev_var (i := 2) (x := first_) rfl)) : EvX K (W0 E) [some (.im (toD prime_)), some (.im (toD a_)), some (.im (toD first_)), some (.im (toD second_)), none, none, none, none, none, none] _ _)
      refine blk_seq (blk_asg L trivial hs_ (fun _ => (gx_tup (gxs_cons gx_name (gxs_cons gx_name gxs_nil)) rfl)) fun u790 => ?_)
      show Blk _ _ _ _ _ [some (.im (toD prime_)), some (.im (toD a_)), some (.im (toD first_)), some (.im (toD second_)), some (.im (toD u790.a)), some (.im (toD u790.b)), none, none, none, none] ((fun (x1_ : Int) (y1_ : Int) => _) u790.a u790.b)
      generalize u790.a = x1_
      generalize u790.b = y1_
      show Blk _ _ _ _ _ [some (.im (toD prime_)), some (.im (toD a_)), some (.im (toD first_)), some (.im (toD second_)), some (.im (toD x1_)), some (.im (toD y1_)), none, none, none, none] _
      try refine Blk.nx ?_
      have hs_ := ((ev_castG (f := optGet) optGet_ok optGet_x (ev_var (i := 3) (x := second_) rfl)) : EvX K (W0 E) [some (.im (toD prime_)), some (.im (toD a_)), some (.im (toD first_)), some (.im (toD second_)), some (.im (toD x1_)), some (.im (toD y1_)), none, none, none, none] _ _)
      refine blk_seq (blk_asg L trivial hs_ (fun _ => (gx_tup (gxs_cons gx_name (gxs_cons gx_name gxs_nil)) rfl)) fun u791 => ?_)
      show Blk _ _ _ _ _ [some (.im (toD prime_)), some (.im (toD a_)), some (.im (toD first_)), some (.im (toD second_)), some (.im (toD x1_)), some (.im (toD y1_)), some (.im (toD u791.a)), some (.im (toD u791.b)), none, none] ((fun (x2_ : Int) (y2_ : Int) => _) u791.a u791.b)
      generalize u791.a = x2_
      generalize u791.b = y2_
      show Blk _ _ _ _ _ [some (.im (toD prime_)), some (.im (toD a_)), some (.im (toD first_)), some (.im (toD second_)), some (.im (toD x1_)), some (.im (toD y1_)), some (.im (toD x2_)), some (.im (toD y2_)), none, none] _
      try refine Blk.nx ?_
      have ht_ := ((et_and (et_test (ev_op opx_eqI mild_ok (ev_var (i := 4) (x := x1_) rfl) (ev_var (i := 6) (x := x2_) rfl))) (et_test (ev_op opx_eqI mild_ok (ev_op (opx_I (C := (fun _ j => 0 < j)) (g := fun i j => i % j)) mild_need (ev_op (opx_I0 (g := fun i j => i + j)) mild_ok (ev_var (i := 5) (x := y1_) rfl) (ev_var (i := 7) (x := y2_) rfl)) (ev_var (i := 0) (x := prime_) rfl)) (ev_int (i := 0))))) : EvT K (W0 E) [some (.im (toD prime_)), some (.im (toD a_)), some (.im (toD first_)), some (.im (toD second_)), some (.im (toD x1_)), some (.im (toD y1_)), some (.im (toD x2_)), some (.im (toD y2_)), none, none] _ _)
      refine blk_seq (blk_if2 L trivial ht_ ?_ ?_)
      · have hr_ := ((ev_noneO (α := (T2 Int Int))) : EvX K (W0 E) [some (.im (toD prime_)), some (.im (toD a_)), some (.im (toD first_)), some (.im (toD second_)), some (.im (toD x1_)), some (.im (toD y1_)), some (.im (toD x2_)), some (.im (toD y2_)), none, none] _ _)
        exact blk_ret L trivial hr_
      · refine blk_nil ?_
        try refine Blk.nx ?_
        have ht_ := ((et_test (ev_op opx_eqI mild_ok (ev_var (i := 4) (x := x1_) rfl) (ev_var (i := 6) (x := x2_) rfl))) : EvT K (W0 E) [some (.im (toD prime_)), some (.im (toD a_)), some (.im (toD first_)), some (.im (toD second_)), some (.im (toD x1_)), some (.im (toD y1_)), some (.im (toD x2_)), some (.im (toD y2_)), none, none] _ _)
        refine blk_seq (blk_ifj (S := Int) (fun slope_ => [some (.im (toD prime_)), some (.im (toD a_)), some (.im (toD first_)), some (.im (toD second_)), some (.im (toD x1_)), some (.im (toD y1_)), some (.im (toD x2_)), some (.im (toD y2_)), some (.im (toD slope_)), none]) (m_u_law_add_k4 prime_ x1_ y1_ x2_) L trivial ht_ ?_ ?_ ?_)
        · intro slope_
          show Blk _ _ _ _ _ [some (.im (toD prime_)), some (.im (toD a_)), some (.im (toD first_)), some (.im (toD second_)), some (.im (toD x1_)), some (.im (toD y1_)), some (.im (toD x2_)), some (.im (toD y2_)), some (.im (toD slope_)), none] ((m_u_law_add_k4 prime_ x1_ y1_ x2_) slope_)
          unfold m_u_law_add_k4
          try refine Blk.nx ?_
          have hs_ := ((ev_op (opx_I (C := (fun _ j => 0 < j)) (g := fun i j => i % j)) mild_need (ev_op (opx_I0 (g := fun i j => i - j)) mild_ok (ev_op (opx_I0 (g := fun i j => i - j)) mild_ok (ev_op (opx_I (C := CMulX) (g := fun i j => i * j)) mild_need (ev_var (i := 8) (x := slope_) rfl) (ev_var (i := 8) (x := slope_) rfl)) (ev_var (i := 4) (x := x1_) rfl)) (ev_var (i := 6) (x := x2_) rfl)) (ev_var (i := 0) (x := prime_) rfl)) : EvX K (W0 E) [some (.im (toD prime_)), some (.im (toD a_)), some (.im (toD first_)), some (.im (toD second_)), some (.im (toD x1_)), some (.im (toD y1_)), some (.im (toD x2_)), some (.im (toD y2_)), some (.im (toD slope_)), none] _ _)
          refine blk_seq (blk_set (i := 9) L trivial hs_ fun x3_ => ?_)
          show Blk _ _ _ _ _ [some (.im (toD prime_)), some (.im (toD a_)), some (.im (toD first_)), some (.im (toD second_)), some (.im (toD x1_)), some (.im (toD y1_)), some (.im (toD x2_)), some (.im (toD y2_)), some (.im (toD slope_)), some (.im (toD x3_))] _
          try refine Blk.nx ?_
          have hr_ := ((ev_as (ev_tup (f := (fun y => T2.mk y.1 y.2.1)) (ea_cons (ev_var (i := 9) (x := x3_) rfl) (ea_cons (ev_op (opx_I (C := (fun _ j => 0 < j)) (g := fun i j => i % j)) mild_need (ev_op (opx_I0 (g := fun i j => i - j)) mild_ok (ev_op (opx_I (C := CMulX) (g := fun i j => i * j)) mild_need (ev_var (i := 8) (x := slope_) rfl) (ev_op (opx_I0 (g := fun i j => i - j)) mild_ok (ev_var (i := 4) (x := x1_) rfl) (ev_var (i := 9) (x := x3_) rfl))) (ev_var (i := 5) (x := y1_) rfl)) (ev_var (i := 0) (x := prime_) rfl)) ea_nil)) (fun _ => rfl) (fun _ => by show 2 ≤ 100000; decide)) some (fun _ => rfl) rfl) : EvX K (W0 E) [some (.im (toD prime_)), some (.im (toD a_)), some (.im (toD first_)), some (.im (toD second_)), some (.im (toD x1_)), some (.im (toD y1_)), some (.im (toD x2_)), some (.im (toD y2_)), some (.im (toD slope_)), some (.im (toD x3_))] _ _)
          exact blk_ret L trivial hr_
        · intro hk4
          have hs_ := ((ev_op (opx_I (C := (fun _ j => 0 < j)) (g := fun i j => i % j)) mild_need (ev_op (opx_I (C := CMulX) (g := fun i j => i * j)) mild_need (ev_op (opx_I0 (g := fun i j => i + j)) mild_ok (ev_op (opx_I (C := CMulX) (g := fun i j => i * j)) mild_need (ev_opI (C := CMul) (g := fun i j => i * j) (fun x y h _ => by cases h; exact .inl (by decide)) (ev_int (i := 3)) (ev_var (i := 4) (x := x1_) rfl)) (ev_var (i := 4) (x := x1_) rfl)) (ev_var (i := 1) (x := a_) rfl)) (ev_call (f := (fun (p : Int × Int × Unit) => m_u_law_inverse p.1 p.2.1)) (ea_cons (ev_opI (C := CMul) (g := fun i j => i * j) (fun x y h _ => by cases h; exact .inl (by decide)) (ev_int (i := 2)) (ev_var (i := 5) (x := y1_) rfl)) (ea_cons (ev_var (i := 0) (x := prime_) rfl) ea_nil)))) (ev_var (i := 0) (x := prime_) rfl)) : EvX K (W0 E) [some (.im (toD prime_)), some (.im (toD a_)), some (.im (toD first_)), some (.im (toD second_)), some (.im (toD x1_)), some (.im (toD y1_)), some (.im (toD x2_)), some (.im (toD y2_)), none, none] _ _)
          refine blk_set (i := 8) L trivial hs_ fun slope_ => ?_
          show Blk _ _ _ _ _ [some (.im (toD prime_)), some (.im (toD a_)), some (.im (toD first_)), some (.im (toD second_)), some (.im (toD x1_)), some (.im (toD y1_)), some (.im (toD x2_)), some (.im (toD y2_)), some (.im (toD slope_)), none] _
          try refine Blk.nx ?_
          exact (hk4 slope_).weak (.same (.same (.same (.same (.same (.same (.same (.same (.same (.same .nil))))))))))
        · intro hk4
          have hs_ := ((ev_op (opx_I (C := (fun _ j => 0 < j)) (g := fun i j => i % j)) mild_need (ev_op (opx_I (C := CMulX) (g := fun i j => i * j)) mild_need (ev_op (opx_I0 (g := fun i j => i - j)) mild_ok (ev_var (i := 7) (x := y2_) rfl) (ev_var (i := 5) (x := y1_) rfl)) (ev_call (f := (fun (p : Int × Int × Unit) => m_u_law_inverse p.1 p.2.1)) (ea_cons (ev_op (opx_I0 (g := fun i j => i - j)) mild_ok (ev_var (i := 6) (x := x2_) rfl) (ev_var (i := 4) (x := x1_) rfl)) (ea_cons (ev_var (i := 0) (x := prime_) rfl) ea_nil)))) (ev_var (i := 0) (x := prime_) rfl)) : EvX K (W0 E) [some (.im (toD prime_)), some (.im (toD a_)), some (.im (toD first_)), some (.im (toD second_)), some (.im (toD x1_)), some (.im (toD y1_)), some (.im (toD x2_)), some (.im (toD y2_)), none, none] _ _)
          refine blk_set (i := 8) L trivial hs_ fun slope_ => ?_
          show Blk _ _ _ _ _ [some (.im (toD prime_)), some (.im (toD a_)), some (.im (toD first_)), some (.im (toD second_)), some (.im (toD x1_)), some (.im (toD y1_)), some (.im (toD x2_)), some (.im (toD y2_)), some (.im (toD slope_)), none] _
          try refine Blk.nx ?_
          exact (hk4 slope_).weak (.same (.same (.same (.same (.same (.same (.same (.same (.same (.same .nil))))))))))
noncomputable def m_u_law_singular (prime_ : Int) (a_ : Int) (b_ : Int) : Res Bool :=
  (((((((Res.ok (4 : Int))).bind fun (t871 : Int) => ((Res.ok a_)).bind fun (t872 : Int) => Res.ok (t871 * t872)).bind fun (t873 : Int) => ((Res.ok a_)).bind fun (t874 : Int) => Res.need (CMulX t873 t874) (Res.ok (t873 * t874))).bind fun (t875 : Int) => ((Res.ok a_)).bind fun (t876 : Int) => Res.need (CMulX t875 t876) (Res.ok (t875 * t876))).bind fun (t881 : Int) => ((((Res.ok (27 : Int))).bind fun (t877 : Int) => ((Res.ok b_)).bind fun (t878 : Int) => Res.ok (t877 * t878)).bind fun (t879 : Int) => ((Res.ok b_)).bind fun (t880 : Int) => Res.need (CMulX t879 t880) (Res.ok (t879 * t880))).bind fun (t882 : Int) => Res.ok (t881 + t882)).bind fun (t883 : Int) => ((Res.ok prime_)).bind fun (t884 : Int) => Res.need (0 < t884) (Res.ok (t883 % t884))).bind fun (t885 : Int) => ((Res.ok (0 : Int))).bind fun (t886 : Int) => Res.ok (decide (t885 = t886))
theorem ok_u_law_singular {P : Program} {w : World} {K : PySem.W.Frag} {mg : Str → Option Value} {base : Heap} (T : Facts K mg) {fd : FuncData} (F : FnP K "_law_singular" "_law_singular" s_u_law_singular (He.ga K "_law_singular") fd) :
    FnOk P w K mg base (L2.CX P w) 1 (He.ga K "_law_singular") fd ["prime", "a", "b"] (spM K (fun (p : Int × Int × Int × Unit) => m_u_law_singular p.1 p.2.1 p.2.2.1)) := by
  refine fn_ok F sc_u_law_singular (fun y => rfl) (fun cdv A outer s H E hr => ?_)
  refine ⟨_, (pss_one (ps_ret (pe_cmpR op_eq (pe_op op_mod (pe_op op_add (pe_op op_mulX (pe_op op_mulX (pe_op op_mul pe_int (pv 1)) (pv 1)) (pv 1)) (pe_op op_mulX (pe_op op_mul pe_int (pv 2)) (pv 2))) (pv 0)) pe_int (nomark _)))), ?_⟩
  rintro ⟨prime_, a_, b_, ⟨⟩⟩ F0 H0 Q KP L
  show Blk K F0 H0 KP _ [some (.im (toD prime_)), some (.im (toD a_)), some (.im (toD b_))] (m_u_law_singular prime_ a_ b_)
  unfold m_u_law_singular
  have hr_ := ((ev_op opx_eqI mild_ok (ev_op (opx_I (C := (fun _ j => 0 < j)) (g := fun i j => i % j)) mild_need (ev_op (opx_I0 (g := fun i j => i + j)) mild_ok (ev_op (opx_I (C := CMulX) (g := fun i j => i * j)) mild_need (ev_op (opx_I (C := CMulX) (g := fun i j => i * j)) mild_need (ev_opI (C := CMul) (g := fun i j => i * j) (fun x y h _ => by cases h; exact .inl (by decide)) (ev_int (i := 4)) (ev_var (i := 1) (x := a_) rfl)) (ev_var (i := 1) (x := a_) rfl)) (ev_var (i := 1) (x := a_) rfl)) (ev_op (opx_I (C := CMulX) (g := fun i j => i * j)) mild_need (ev_opI (C := CMul) (g := fun i j => i * j) (fun x y h _ => by cases h; exact .inl (by decide)) (ev_int (i := 27)) (ev_var (i := 2) (x := b_) rfl)) (ev_var (i := 2) (x := b_) rfl))) (ev_var (i := 0) (x := prime_) rfl)) (ev_int (i := 0))) : EvX K (W0 E) [some (.im (toD prime_)), some (.im (toD a_)), some (.im (toD b_))] _ _)
  exact blk_ret L trivial hr_
noncomputable def m_u_law_prime_l1 (k1 : Int → Res Int) : List Int → Int → Res Int
  | [], s => k1 s
  | x895 :: r1, number_ =>   (fun (k_ : Int) => (((((((Res.ok (2 : Int))).bind fun (t896 : Int) => ((Res.ok (15 : Int))).bind fun (t897 : Int) => Res.need (okRange t896 ∧ okRange t897) (Res.ok (pyRange t896 t897))).bind fun (xs906 : List Int) => Res.need (xs906.length ≤ 16777216) (compL (fun (x898 : Int) => (((Res.ok x898)).bind fun (t899 : Int) => ((Res.ok number_)).bind fun (t900 : Int) => Res.ok (decide (t899 < t900))).bind fun b905 => cond b905 ((((Res.ok number_)).bind fun (t901 : Int) => ((Res.ok x898)).bind fun (t902 : Int) => Res.need (0 < t902) (Res.ok (t901 % t902))).bind fun (t903 : Int) => ((Res.ok (0 : Int))).bind fun (t904 : Int) => Res.ok (decide (t903 = t904))) (Res.ok false)) (fun (x898 : Int) => (Res.ok x898)) xs906)).bind fun a908 => (Res.ok ()).bind fun a909 => Res.ok (a908, a909)).bind fun p907 => Res.ok ((p907.1).length : Int)).bind fun (t910 : Int) => ((Res.ok (0 : Int))).bind fun (t911 : Int) => Res.ok (decide (t910 = t911))).bind fun b => cond b   ((Res.ok number_))   ((((Res.ok number_)).bind fun (t912 : Int) => ((Res.ok (1 : Int))).bind fun (t913 : Int) => Res.ok (t912 + t913)).bind fun (number_ : Int) =>   m_u_law_prime_l1 k1 r1 number_)) x895
noncomputable def m_u_law_prime_k3 : Int → Res Int := fun number_ =>   (Res.ok (5 : Int))
noncomputable def m_u_law_prime (cell_ : Int) : Res Int :=
  (((Res.ok (5 : Int))).bind fun (t892 : Int) => (((((Res.ok cell_)).bind fun a888 => (Res.ok ()).bind fun a889 => Res.ok (a888, a889)).bind fun p887 => Res.ok (Int.natAbs p887.1 : Int)).bind fun (t890 : Int) => ((Res.ok (195 : Int))).bind fun (t891 : Int) => Res.ok (t890 % t891)).bind fun (t893 : Int) => Res.ok (t892 + t893)).bind fun (number_ : Int) =>   (((Res.ok (20 : Int))).bind fun (t894 : Int) => Res.need (okRange t894) (Res.ok (pyRange 0 t894))).bind fun (xs914 : List Int) => m_u_law_prime_l1 (m_u_law_prime_k3) xs914 number_
theorem ok_u_law_prime {P : Program} {w : World} {K : PySem.W.Frag} {mg : Str → Option Value} {base : Heap} (T : Facts K mg) {fd : FuncData} (F : FnP K "_law_prime" "_law_prime" s_u_law_prime (He.ga K "_law_prime") fd) :
    FnOk P w K mg base (L2.CX P w) 1 (He.ga K "_law_prime") fd ["cell"] (spM K (fun (p : Int × Unit) => m_u_law_prime p.1)) := by
  refine fn_ok F sc_u_law_prime (fun y => rfl) (fun cdv A outer s H E hr => ?_)
  refine ⟨_, (pss_cons (ps_set (i := 1) sc_u_law_prime.nd rfl (Or.inr rfl) (pe_op op_add pe_int (pe_op op_mod (pe_callB call_abs (by rfl) T.n_abs (by decide +kernel) (pa_cons (pv 0) pa_nil)) pe_int))) (pss_cons (ps_for (passes_of rfl) rfl (pi_range1 rfl T.n_range (pa_cons pe_int pa_nil)) (pg_name (i := 2) sc_u_law_prime.nd rfl (Or.inl rfl)) (pss_cons (ps_if (pt_cmpR op_eq (pe_callB (cr_len rfl) (by rfl) T.n_len (by decide +kernel) (pa_cons (pe_lc (own := [("j", 3)]) rfl sc_u_law_prime.nd (pi_range2 rfl T.n_range (pa_cons pe_int (pa_cons pe_int pa_nil))) (blkOk_by (own := [("j", 3)]) (N := ["cell", "number", "k", "j"]) (sc := defScope s_u_law_prime) (by decide +kernel)) (fun _ _ _ _ _ => (pg_name (i := 3) sc_u_law_prime.nd rfl (Or.inl rfl))) (fun _ _ _ _ _ => (pts_one (PW.pt (pw_and (pt_cmpR op_lt (pv 3) (pv 1) (nomark _)) (pw_and1 (pt_cmpR op_eq (pe_op op_mod (pv 1) (pv 3)) pe_int (nomark _))))))) (fun _ _ _ _ _ => (pv 3))) pa_nil)) pe_int (nomark _)) (pss_one (ps_ret (pv 1))) pss_nil) (pss_one (ps_set (i := 1) sc_u_law_prime.nd rfl (Or.inr rfl) (pe_op op_add (pv 1) pe_int))))) (pss_one (ps_ret pe_int)))), ?_⟩
  rintro ⟨cell_, ⟨⟩⟩ F0 H0 Q KP L
  show Blk K F0 H0 KP _ [some (.im (toD cell_)), none, none, none] (m_u_law_prime cell_)
  unfold m_u_law_prime
  have hs_ := ((ev_op (opx_I0 (g := fun i j => i + j)) mild_ok (ev_int (i := 5)) (ev_opI (C := (fun _ j => 0 < j)) (g := fun i j => i % j) (fun x y _ h => by cases h; (show (0 : Int) < _; decide)) (ev_cb cx_abs (fun _ _ h => nomatch h) (ea_cons (ev_var (i := 0) (x := cell_) rfl) ea_nil)) (ev_int (i := 195)))) : EvX K (W0 E) [some (.im (toD cell_)), none, none, none] _ _)
  refine blk_seq (blk_set (i := 1) L trivial hs_ fun number_ => ?_)
  show Blk _ _ _ _ _ [some (.im (toD cell_)), some (.im (toD number_)), none, none] _
  try refine Blk.nx ?_
  have hi_ := ((ei_range1 (ev_int (i := 20))) : EvI K (W0 E) [some (.im (toD cell_)), some (.im (toD number_)), none, none] _ _)
  refine blk_seq (blk_for (S := Int) (m_u_law_prime_l1 (m_u_law_prime_k3)) (m_u_law_prime_k3) (fun number_ => [some (.im (toD cell_)), some (.im (toD number_)), none, none]) number_ L trivial hi_ (fun _ => gx_name) (.same (.same (.same (.same .nil)))) (fun _ => rfl) ?_ ?_)
  · intro F1 L1 hB1 x895 r1 s_ N_ hN1
    revert s_; intro number_
    show Blk _ _ _ _ _ [some (.im (toD cell_)), some (.im (toD number_)), some (.im (toD x895)), none] (m_u_law_prime_l1 (m_u_law_prime_k3) (x895 :: r1) number_)
    rw [m_u_law_prime_l1]
    show Blk _ _ _ _ _ _ ((fun (k_ : Int) => _) x895)
    generalize x895 = k_
    show Blk _ _ _ _ _ [some (.im (toD cell_)), some (.im (toD number_)), some (.im (toD k_)), none] _
    have ht_ := ((et_test (ev_op opx_eqI mild_ok (ev_cb cx_len (fun _ _ h => nomatch h) (ea_cons (ev_ofN (ev_comp (tst := fun (x898 : Int) => (((Res.ok x898)).bind fun (t899 : Int) => ((Res.ok number_)).bind fun (t900 : Int) => Res.ok (decide (t899 < t900))).bind fun b905 => cond b905 ((((Res.ok number_)).bind fun (t901 : Int) => ((Res.ok x898)).bind fun (t902 : Int) => Res.need (0 < t902) (Res.ok (t901 % t902))).bind fun (t903 : Int) => ((Res.ok (0 : Int))).bind fun (t904 : Int) => Res.ok (decide (t903 = t904))) (Res.ok false)) (el := fun (x898 : Int) => (Res.ok x898)) (ws := [3]) (ei_range2 (ev_int (i := 2)) (ev_int (i := 15))) (fun _ => gx_name) (fun x898 => ((et_and (et_test (ev_op (opx_B0 (g := fun i j => decide (i < j))) mild_ok (ev_var (i := 3) (x := x898) rfl) (ev_var (i := 1) (x := number_) rfl))) (et_test (ev_op opx_eqI mild_ok (ev_op (opx_I (C := (fun _ j => 0 < j)) (g := fun i j => i % j)) mild_need (ev_var (i := 1) (x := number_) rfl) (ev_var (i := 3) (x := x898) rfl)) (ev_int (i := 0))))) : EvT K WT [some (.im (toD cell_)), some (.im (toD number_)), some (.im (toD k_)), some (.im (toD x898))] _ _)) (fun x898 => ((ev_var (i := 3) (x := x898) rfl) : EvX K WT [some (.im (toD cell_)), some (.im (toD number_)), some (.im (toD k_)), some (.im (toD x898))] _ _)))) ea_nil)) (ev_int (i := 0)))) : EvT K (W0 E) [some (.im (toD cell_)), some (.im (toD number_)), some (.im (toD k_)), none] _ _)
    refine blk_seq (blk_if2 L1 trivial ht_ ?_ ?_)
    · have hr_ := ((ev_var (i := 1) (x := number_) rfl) : EvX K (W0 E) [some (.im (toD cell_)), some (.im (toD number_)), some (.im (toD k_)), none] _ _)
      exact blk_ret L1 trivial hr_
    · refine blk_nil ?_
      try refine Blk.nx ?_
      have hs_ := ((ev_op (opx_I0 (g := fun i j => i + j)) mild_ok (ev_var (i := 1) (x := number_) rfl) (ev_int (i := 1))) : EvX K (W0 E) [some (.im (toD cell_)), some (.im (toD number_)), some (.im (toD k_)), none] _ _)
      refine blk_set (i := 1) L1 trivial hs_ fun number_ => ?_
      show Blk _ _ _ _ _ [some (.im (toD cell_)), some (.im (toD number_)), some (.im (toD k_)), none] _
      try refine Blk.nx ?_
      exact (hN1 number_).weak (.same (.same (.drop (.same .nil))))
  · intro number_
    show Blk _ _ _ _ _ [some (.im (toD cell_)), some (.im (toD number_)), none, none] ((m_u_law_prime_k3) number_)
    unfold m_u_law_prime_k3
    try refine Blk.nx ?_
    have hr_ := ((ev_int (i := 5)) : EvX K (W0 E) [some (.im (toD cell_)), some (.im (toD number_)), none, none] _ _)
    exact blk_ret L trivial hr_
noncomputable def m_u_law_lowest_l1 (prime_ : Int) (k1 : Unit → Res Int) : List Int → Unit → Res Int
  | [], s => k1 s
  | x917 :: r1, _ =>   (fun (g_ : Int) => (((((Res.ok g_)).bind fun a923 => (((((Res.ok prime_)).bind fun (t918 : Int) => ((Res.ok (1 : Int))).bind fun (t919 : Int) => Res.ok (t918 - t919)).bind fun (t920 : Int) => ((Res.ok (2 : Int))).bind fun (t921 : Int) => Res.ok (t920 / t921)).bind fun a925 => (((Res.ok prime_)).bind fun a927 => (Res.ok ()).bind fun a928 => Res.ok (a927, a928)).bind fun a926 => Res.ok (a925, a926)).bind fun a924 => Res.ok (a923, a924)).bind fun p922 => m_u_law_power p922.1 p922.2.1 p922.2.2.1).bind fun (t931 : Int) => (((Res.ok prime_)).bind fun (t929 : Int) => ((Res.ok (1 : Int))).bind fun (t930 : Int) => Res.ok (t929 - t930)).bind fun (t932 : Int) => Res.ok (decide (t931 = t932))).bind fun b => cond b   ((Res.ok g_))   (m_u_law_lowest_l1 prime_ k1 r1 ())) x917
noncomputable def m_u_law_lowest_k2 : Unit → Res Int := fun _ =>   (Res.ok (0 : Int))
noncomputable def m_u_law_lowest (prime_ : Int) : Res Int :=
  (((Res.ok (2 : Int))).bind fun (t915 : Int) => ((Res.ok (60 : Int))).bind fun (t916 : Int) => Res.need (okRange t915 ∧ okRange t916) (Res.ok (pyRange t915 t916))).bind fun (xs933 : List Int) => m_u_law_lowest_l1 prime_ (m_u_law_lowest_k2) xs933 ()
theorem ok_u_law_lowest {P : Program} {w : World} {K : PySem.W.Frag} {mg : Str → Option Value} {base : Heap} (T : Facts K mg) {fd : FuncData} (F : FnP K "_law_lowest" "_law_lowest" s_u_law_lowest (He.ga K "_law_lowest") fd) :
    FnOk P w K mg base (L2.CX P w) 2 (He.ga K "_law_lowest") fd ["prime"] (spM K (fun (p : Int × Unit) => m_u_law_lowest p.1)) := by
  obtain ⟨fd_u_law_power, F_u_law_power⟩ := T.d_u_law_power
  have G_u_law_power := ok_u_law_power (P := P) (w := w) (base := base) T F_u_law_power
  have b_u_law_power : Binds K fd_u_law_power ["a", "exponent", "modulus"] [] := F_u_law_power.bindsN fun _ _ _ _ _ _ us hl => match us, hl with | [_, _, _], _ => rfl
  refine fn_ok F sc_u_law_lowest (fun y => rfl) (fun cdv A outer s H E hr => ?_)
  refine ⟨_, (pss_cons (ps_for (passes_of rfl) rfl (pi_range2 rfl T.n_range (pa_cons pe_int (pa_cons pe_int pa_nil))) (pg_name (i := 1) sc_u_law_lowest.nd rfl (Or.inl rfl)) (pss_one (ps_if (pt_cmpR op_eq (pe_callS G_u_law_power (hr.mono (by decide)) rfl T.g_u_law_power F_u_law_power.kp b_u_law_power (fun σ => passAt (takes_of rfl rfl rfl rfl) σ) (pa_cons (pv 1) (pa_cons (pe_op op_fdiv (pe_op op_sub (pv 0) pe_int) pe_int) (pa_cons (pv 0) pa_nil)))) (pe_op op_sub (pv 0) pe_int) (nomark _)) (pss_one (ps_ret (pv 1))) pss_nil))) (pss_one (ps_ret pe_int))), ?_⟩
  rintro ⟨prime_, ⟨⟩⟩ F0 H0 Q KP L
  show Blk K F0 H0 KP _ [some (.im (toD prime_)), none] (m_u_law_lowest prime_)
  unfold m_u_law_lowest
  have hi_ := ((ei_range2 (ev_int (i := 2)) (ev_int (i := 60))) : EvI K (W0 E) [some (.im (toD prime_)), none] _ _)
  refine blk_seq (blk_for (S := Unit) (m_u_law_lowest_l1 prime_ (m_u_law_lowest_k2)) (m_u_law_lowest_k2) (fun _ => [some (.im (toD prime_)), none]) () L trivial hi_ (fun _ => gx_name) (.same (.same .nil)) (fun _ => rfl) ?_ ?_)
  · intro F1 L1 hB1 x917 r1 s_ N_ hN1
    obtain ⟨⟩ := s_
    show Blk _ _ _ _ _ [some (.im (toD prime_)), some (.im (toD x917))] (m_u_law_lowest_l1 prime_ (m_u_law_lowest_k2) (x917 :: r1) ())
    rw [m_u_law_lowest_l1]
    show Blk _ _ _ _ _ _ ((fun (g_ : Int) => _) x917)
    generalize x917 = g_
    show Blk _ _ _ _ _ [some (.im (toD prime_)), some (.im (toD g_))] _
    have ht_ := ((et_test (ev_op opx_eqI mild_ok (ev_call (f := (fun (p : Int × Int × Int × Unit) => m_u_law_power p.1 p.2.1 p.2.2.1)) (ea_cons (ev_var (i := 1) (x := g_) rfl) (ea_cons (ev_opI (C := CDiv) (g := fun i j => i / j) (fun x y _ h => by cases h; exact ⟨by decide, by decide⟩) (ev_op (opx_I0 (g := fun i j => i - j)) mild_ok (ev_var (i := 0) (x := prime_) rfl) (ev_int (i := 1))) (ev_int (i := 2))) (ea_cons (ev_var (i := 0) (x := prime_) rfl) ea_nil)))) (ev_op (opx_I0 (g := fun i j => i - j)) mild_ok (ev_var (i := 0) (x := prime_) rfl) (ev_int (i := 1))))) : EvT K (W0 E) [some (.im (toD prime_)), some (.im (toD g_))] _ _)
    refine blk_if2 L1 trivial ht_ ?_ ?_
    · have hr_ := ((ev_var (i := 1) (x := g_) rfl) : EvX K (W0 E) [some (.im (toD prime_)), some (.im (toD g_))] _ _)
      exact blk_ret L1 trivial hr_
    · refine blk_nil ?_
      try refine Blk.nx ?_
      exact (hN1 ()).weak (.same (.drop .nil))
  · intro _
    show Blk _ _ _ _ _ [some (.im (toD prime_)), none] ((m_u_law_lowest_k2) ())
    unfold m_u_law_lowest_k2
    try refine Blk.nx ?_
    have hr_ := ((ev_int (i := 0)) : EvX K (W0 E) [some (.im (toD prime_)), none] _ _)
    exact blk_ret L trivial hr_
noncomputable def m_u_law_moved (prime_ : Int) (u_ : Int) (point_ : (Option (T2 Int Int))) : Res (Option (T2 Int Int)) :=
  (((Res.ok point_)).bind fun (t934 : (Option (T2 Int Int))) => ((Res.ok ())).bind fun (t935 : Unit) => Res.ok (toD t934).isNon).bind fun b => cond b   ((Res.ok (none : (Option (T2 Int Int)))))   ((((((((((Res.ok point_)).bind optGet).bind fun (t936 : (T2 Int Int)) => Res.ok t936.a).bind fun (t937 : Int) => ((Res.ok u_)).bind fun (t938 : Int) => Res.need (CMulX t937 t938) (Res.ok (t937 * t938))).bind fun (t939 : Int) => ((Res.ok u_)).bind fun (t940 : Int) => Res.need (CMulX t939 t940) (Res.ok (t939 * t940))).bind fun (t941 : Int) => ((Res.ok prime_)).bind fun (t942 : Int) => Res.need (0 < t942) (Res.ok (t941 % t942))).bind fun a953 => (((((((((Res.ok point_)).bind optGet).bind fun (t943 : (T2 Int Int)) => Res.ok t943.b).bind fun (t944 : Int) => ((Res.ok u_)).bind fun (t945 : Int) => Res.need (CMulX t944 t945) (Res.ok (t944 * t945))).bind fun (t946 : Int) => ((Res.ok u_)).bind fun (t947 : Int) => Res.need (CMulX t946 t947) (Res.ok (t946 * t947))).bind fun (t948 : Int) => ((Res.ok u_)).bind fun (t949 : Int) => Res.need (CMulX t948 t949) (Res.ok (t948 * t949))).bind fun (t950 : Int) => ((Res.ok prime_)).bind fun (t951 : Int) => Res.need (0 < t951) (Res.ok (t950 % t951))).bind fun a955 => (Res.ok ()).bind fun a956 => Res.ok (a955, a956)).bind fun a954 => Res.ok (a953, a954)).bind fun p952 => Res.ok (T2.mk p952.1 p952.2.1)).bind fun (x : (T2 Int Int)) => Res.ok (some x))
theorem ok_u_law_moved {P : Program} {w : World} {K : PySem.W.Frag} {mg : Str → Option Value} {base : Heap} (T : Facts K mg) {fd : FuncData} (F : FnP K "_law_moved" "_law_moved" s_u_law_moved (He.ga K "_law_moved") fd) :
    FnOk P w K mg base (L2.CX P w) 1 (He.ga K "_law_moved") fd ["prime", "u", "point"] (spM K (fun (p : Int × Int × (Option (T2 Int Int)) × Unit) => m_u_law_moved p.1 p.2.1 p.2.2.1)) := by
  refine fn_ok F sc_u_law_moved (fun y => rfl) (fun cdv A outer s H E hr => ?_)
  refine ⟨_, (pss_cons (ps_if (pt_cmpR op_isN (pv 2) pe_non (nomark _)) (pss_one (ps_ret pe_non)) pss_nil) (pss_one (ps_ret (pe_tup (pa_cons (pe_op op_mod (pe_op op_mulX (pe_op op_mulX (pe_ix (cr_ixT rfl) (pv 2) pe_int (fun _ _ => rfl)) (pv 1)) (pv 1)) (pv 0)) (pa_cons (pe_op op_mod (pe_op op_mulX (pe_op op_mulX (pe_op op_mulX (pe_ix (cr_ixT rfl) (pv 2) pe_int (fun _ _ => rfl)) (pv 1)) (pv 1)) (pv 1)) (pv 0)) pa_nil)))))), ?_⟩
  rintro ⟨prime_, u_, point_, ⟨⟩⟩ F0 H0 Q KP L
  show Blk K F0 H0 KP _ [some (.im (toD prime_)), some (.im (toD u_)), some (.im (toD point_))] (m_u_law_moved prime_ u_ point_)
  unfold m_u_law_moved
  have ht_ := ((et_test (ev_op opx_isN mild_ok (ev_var (i := 2) (x := point_) rfl) ev_non)) : EvT K (W0 E) [some (.im (toD prime_)), some (.im (toD u_)), some (.im (toD point_))] _ _)
  refine blk_seq (blk_if2 L trivial ht_ ?_ ?_)
  · have hr_ := ((ev_noneO (α := (T2 Int Int))) : EvX K (W0 E) [some (.im (toD prime_)), some (.im (toD u_)), some (.im (toD point_))] _ _)
    exact blk_ret L trivial hr_
  · refine blk_nil ?_
    try refine Blk.nx ?_
    have hr_ := ((ev_as (ev_tup (f := (fun y => T2.mk y.1 y.2.1)) (ea_cons (ev_op (opx_I (C := (fun _ j => 0 < j)) (g := fun i j => i % j)) mild_need (ev_op (opx_I (C := CMulX) (g := fun i j => i * j)) mild_need (ev_op (opx_I (C := CMulX) (g := fun i j => i * j)) mild_need (ev_ixTC (i := 0) (f := fun x => x.a) (ev_castG (f := optGet) optGet_ok optGet_x (ev_var (i := 2) (x := point_) rfl)) (fun x => ⟨_, rfl, rfl⟩)) (ev_var (i := 1) (x := u_) rfl)) (ev_var (i := 1) (x := u_) rfl)) (ev_var (i := 0) (x := prime_) rfl)) (ea_cons (ev_op (opx_I (C := (fun _ j => 0 < j)) (g := fun i j => i % j)) mild_need (ev_op (opx_I (C := CMulX) (g := fun i j => i * j)) mild_need (ev_op (opx_I (C := CMulX) (g := fun i j => i * j)) mild_need (ev_op (opx_I (C := CMulX) (g := fun i j => i * j)) mild_need (ev_ixTC (i := 1) (f := fun x => x.b) (ev_castG (f := optGet) optGet_ok optGet_x (ev_var (i := 2) (x := point_) rfl)) (fun x => ⟨_, rfl, rfl⟩)) (ev_var (i := 1) (x := u_) rfl)) (ev_var (i := 1) (x := u_) rfl)) (ev_var (i := 1) (x := u_) rfl)) (ev_var (i := 0) (x := prime_) rfl)) ea_nil)) (fun _ => rfl) (fun _ => by show 2 ≤ 100000; decide)) some (fun _ => rfl) rfl) : EvX K (W0 E) [some (.im (toD prime_)), some (.im (toD u_)), some (.im (toD point_))] _ _)
    exact blk_ret L trivial hr_
noncomputable def m_law_l3 (prime_ : Int) (curve_ : O_Curve) (g_ : Int) (twist_ : O_Curve) (k3 : Unit → Res Bool) : List Int → Unit → Res Bool
  | [], s => k3 s
  | x1022 :: r3, _ =>   (fun (x_ : Int) => (((((Res.ok curve_)).bind fun (o1023 : O_Curve) => (((Res.ok x_)).bind fun a1025 => (((Res.ok false)).bind fun a1027 => (Res.ok ()).bind fun a1028 => Res.ok (a1027, a1028)).bind fun a1026 => Res.ok (a1025, a1026)).bind fun p1024 => m_Curve_lift o1023 p1024.1 p1024.2.1).bind fun (t1029 : (Option (T2 Int Int))) => ((Res.ok ())).bind fun (t1030 : Unit) => Res.ok (!(toD t1029).isNon)).bind fun b1039 => cond b1039 (Res.ok true) ((((Res.ok curve_)).bind fun (o1031 : O_Curve) => (((Res.ok x_)).bind fun a1033 => (((Res.ok true)).bind fun a1035 => (Res.ok ()).bind fun a1036 => Res.ok (a1035, a1036)).bind fun a1034 => Res.ok (a1033, a1034)).bind fun p1032 => m_Curve_lift o1031 p1032.1 p1032.2.1).bind fun (t1037 : (Option (T2 Int Int))) => ((Res.ok ())).bind fun (t1038 : Unit) => Res.ok (!(toD t1037).isNon))).bind fun (here_ : Bool) =>   (((((Res.ok twist_)).bind fun (o1044 : O_Curve) => (((((Res.ok x_)).bind fun (t1040 : Int) => ((Res.ok g_)).bind fun (t1041 : Int) => Res.need (CMulX t1040 t1041) (Res.ok (t1040 * t1041))).bind fun (t1042 : Int) => ((Res.ok prime_)).bind fun (t1043 : Int) => Res.need (0 < t1043) (Res.ok (t1042 % t1043))).bind fun a1046 => (((Res.ok false)).bind fun a1048 => (Res.ok ()).bind fun a1049 => Res.ok (a1048, a1049)).bind fun a1047 => Res.ok (a1046, a1047)).bind fun p1045 => m_Curve_lift o1044 p1045.1 p1045.2.1).bind fun (t1050 : (Option (T2 Int Int))) => ((Res.ok ())).bind fun (t1051 : Unit) => Res.ok (!(toD t1050).isNon)).bind fun b1064 => cond b1064 (Res.ok true) ((((Res.ok twist_)).bind fun (o1056 : O_Curve) => (((((Res.ok x_)).bind fun (t1052 : Int) => ((Res.ok g_)).bind fun (t1053 : Int) => Res.need (CMulX t1052 t1053) (Res.ok (t1052 * t1053))).bind fun (t1054 : Int) => ((Res.ok prime_)).bind fun (t1055 : Int) => Res.need (0 < t1055) (Res.ok (t1054 % t1055))).bind fun a1058 => (((Res.ok true)).bind fun a1060 => (Res.ok ()).bind fun a1061 => Res.ok (a1060, a1061)).bind fun a1059 => Res.ok (a1058, a1059)).bind fun p1057 => m_Curve_lift o1056 p1057.1 p1057.2.1).bind fun (t1062 : (Option (T2 Int Int))) => ((Res.ok ())).bind fun (t1063 : Unit) => Res.ok (!(toD t1062).isNon))).bind fun (there_ : Bool) =>   ((((Res.ok curve_)).bind fun (o1065 : O_Curve) => (((Res.ok x_)).bind fun a1067 => (((Res.ok false)).bind fun a1069 => (Res.ok ()).bind fun a1070 => Res.ok (a1069, a1070)).bind fun a1068 => Res.ok (a1067, a1068)).bind fun p1066 => m_Curve_lift o1065 p1066.1 p1066.2.1).bind fun (t1076 : (Option (T2 Int Int))) => ((((Res.ok x_)).bind fun a1072 => (((Res.ok (0 : Int))).bind fun a1074 => (Res.ok ()).bind fun a1075 => Res.ok (a1074, a1075)).bind fun a1073 => Res.ok (a1072, a1073)).bind fun p1071 => Res.ok (T2.mk p1071.1 p1071.2.1)).bind fun (t1077 : (T2 Int Int)) => Res.need ((toD t1076).okq = true ∧ (toD t1077).okq = true) (Res.ok (pyEq (toD t1076) (toD t1077)))).bind fun (zero_ : Bool) =>   (((((Res.ok here_)).bind fun (t1078 : Bool) => Res.ok (!t1078)).bind fun b1080 => cond b1080 (((Res.ok there_)).bind fun (t1079 : Bool) => Res.ok (!t1079)) (Res.ok false)).bind fun b1084 => cond b1084 (Res.ok true) ((((Res.ok here_)).bind fun b1081 => cond b1081 ((Res.ok there_)) (Res.ok false)).bind fun (t1082 : Bool) => ((Res.ok zero_)).bind fun (t1083 : Bool) => Res.ok (!(t1082 == t1083)))).bind fun b => cond b   ((Res.ok false))   (m_law_l3 prime_ curve_ g_ twist_ k3 r3 ())) x1022
noncomputable def m_law_l5 (prime_ : Int) (second_ : (T2 Int Int)) (curve_ : O_Curve) (u_ : Int) (other_ : O_Curve) (factor_ : Int) (k5 : Unit → Res Bool) : List (Option (T2 Int Int)) → Unit → Res Bool
  | [], s => k5 s
  | x1167 :: r5, _ =>   (fun (one_ : (Option (T2 Int Int))) => ((((Res.ok prime_)).bind fun a1169 => (((Res.ok u_)).bind fun a1171 => (((Res.ok one_)).bind fun a1173 => (Res.ok ()).bind fun a1174 => Res.ok (a1173, a1174)).bind fun a1172 => Res.ok (a1171, a1172)).bind fun a1170 => Res.ok (a1169, a1170)).bind fun p1168 => m_u_law_moved p1168.1 p1168.2.1 p1168.2.2.1).bind fun (moved_ : (Option (T2 Int Int))) =>   (((((Res.ok other_)).bind fun (o1175 : O_Curve) => ((((Res.ok moved_)).bind fun (x : (Option (T2 Int Int))) => Res.ok (toD x)).bind fun a1177 => (Res.ok ()).bind fun a1178 => Res.ok (a1177, a1178)).bind fun p1176 => m_Curve_has o1175 p1176.1).bind fun (t1179 : Bool) => Res.ok (!t1179)).bind fun b1201 => cond b1201 (Res.ok true) ((((Res.ok other_)).bind fun (o1180 : O_Curve) => (((Res.ok factor_)).bind fun a1182 => (((Res.ok moved_)).bind fun a1184 => (Res.ok ()).bind fun a1185 => Res.ok (a1184, a1185)).bind fun a1183 => Res.ok (a1182, a1183)).bind fun p1181 => m_Curve_multiply o1180 p1181.1 p1181.2.1).bind fun (t1199 : (Option (T2 Int Int))) => ((((Res.ok prime_)).bind fun a1193 => (((Res.ok u_)).bind fun a1195 => ((((Res.ok curve_)).bind fun (o1186 : O_Curve) => (((Res.ok factor_)).bind fun a1188 => (((Res.ok one_)).bind fun a1190 => (Res.ok ()).bind fun a1191 => Res.ok (a1190, a1191)).bind fun a1189 => Res.ok (a1188, a1189)).bind fun p1187 => m_Curve_multiply o1186 p1187.1 p1187.2.1).bind fun a1197 => (Res.ok ()).bind fun a1198 => Res.ok (a1197, a1198)).bind fun a1196 => Res.ok (a1195, a1196)).bind fun a1194 => Res.ok (a1193, a1194)).bind fun p1192 => m_u_law_moved p1192.1 p1192.2.1 p1192.2.2.1).bind fun (t1200 : (Option (T2 Int Int))) => Res.need ((toD t1199).okq = true ∧ (toD t1200).okq = true) (Res.ok (!pyEq (toD t1199) (toD t1200))))).bind fun b => cond b   ((Res.ok false))   (((((Res.ok other_)).bind fun (o1209 : O_Curve) => (((Res.ok moved_)).bind fun a1211 => (((((Res.ok prime_)).bind fun a1203 => (((Res.ok u_)).bind fun a1205 => ((((Res.ok second_)).bind fun (x : (T2 Int Int)) => Res.ok (some x)).bind fun a1207 => (Res.ok ()).bind fun a1208 => Res.ok (a1207, a1208)).bind fun a1206 => Res.ok (a1205, a1206)).bind fun a1204 => Res.ok (a1203, a1204)).bind fun p1202 => m_u_law_moved p1202.1 p1202.2.1 p1202.2.2.1).bind fun a1213 => (Res.ok ()).bind fun a1214 => Res.ok (a1213, a1214)).bind fun a1212 => Res.ok (a1211, a1212)).bind fun p1210 => m_Curve_add o1209 p1210.1 p1210.2.1).bind fun (t1228 : (Option (T2 Int Int))) => ((((Res.ok prime_)).bind fun a1222 => (((Res.ok u_)).bind fun a1224 => ((((Res.ok curve_)).bind fun (o1215 : O_Curve) => (((Res.ok one_)).bind fun a1217 => ((((Res.ok second_)).bind fun (x : (T2 Int Int)) => Res.ok (some x)).bind fun a1219 => (Res.ok ()).bind fun a1220 => Res.ok (a1219, a1220)).bind fun a1218 => Res.ok (a1217, a1218)).bind fun p1216 => m_Curve_add o1215 p1216.1 p1216.2.1).bind fun a1226 => (Res.ok ()).bind fun a1227 => Res.ok (a1226, a1227)).bind fun a1225 => Res.ok (a1224, a1225)).bind fun a1223 => Res.ok (a1222, a1223)).bind fun p1221 => m_u_law_moved p1221.1 p1221.2.1 p1221.2.2.1).bind fun (t1229 : (Option (T2 Int Int))) => Res.need ((toD t1228).okq = true ∧ (toD t1229).okq = true) (Res.ok (!pyEq (toD t1228) (toD t1229)))).bind fun b => cond b   ((Res.ok false))   (m_law_l5 prime_ second_ curve_ u_ other_ factor_ k5 r5 ()))) x1167
noncomputable def m_law_k7 : Unit → Res Bool := fun _ =>   (Res.ok true)
noncomputable def m_law_k8 (script_ : (Ro Int)) (prime_ : Int) (a_ : Int) (b_ : Int) (first_ : (T2 Int Int)) (second_ : (T2 Int Int)) (curve_ : O_Curve) (count_ : Int) : Unit → Res Bool := fun _ =>   (((Res.ok (1 : Int))).bind fun (t1097 : Int) => ((((((Res.ok script_)).bind fun a1086 => (((Res.ok (6 : Int))).bind fun a1088 => (Res.ok ()).bind fun a1089 => Res.ok (a1088, a1089)).bind fun a1087 => Res.ok (a1086, a1087)).bind fun p1085 => m_u_law_cell p1085.1 p1085.2.1).bind fun a1093 => ((((Res.ok prime_)).bind fun (t1090 : Int) => ((Res.ok (1 : Int))).bind fun (t1091 : Int) => Res.ok (t1090 - t1091)).bind fun a1095 => (Res.ok ()).bind fun a1096 => Res.ok (a1095, a1096)).bind fun a1094 => Res.ok (a1093, a1094)).bind fun p1092 => m_u_law_residue p1092.1 p1092.2.1).bind fun (t1098 : Int) => Res.ok (t1097 + t1098)).bind fun (u_ : Int) =>   ((((Res.ok prime_)).bind fun a1120 => (((((((Res.ok a_)).bind fun (t1099 : Int) => ((Res.ok u_)).bind fun (t1100 : Int) => Res.need (CMulX t1099 t1100) (Res.ok (t1099 * t1100))).bind fun (t1101 : Int) => ((Res.ok u_)).bind fun (t1102 : Int) => Res.need (CMulX t1101 t1102) (Res.ok (t1101 * t1102))).bind fun (t1103 : Int) => ((Res.ok u_)).bind fun (t1104 : Int) => Res.need (CMulX t1103 t1104) (Res.ok (t1103 * t1104))).bind fun (t1105 : Int) => ((Res.ok u_)).bind fun (t1106 : Int) => Res.need (CMulX t1105 t1106) (Res.ok (t1105 * t1106))).bind fun a1122 => (((((((((Res.ok b_)).bind fun (t1107 : Int) => ((Res.ok u_)).bind fun (t1108 : Int) => Res.need (CMulX t1107 t1108) (Res.ok (t1107 * t1108))).bind fun (t1109 : Int) => ((Res.ok u_)).bind fun (t1110 : Int) => Res.need (CMulX t1109 t1110) (Res.ok (t1109 * t1110))).bind fun (t1111 : Int) => ((Res.ok u_)).bind fun (t1112 : Int) => Res.need (CMulX t1111 t1112) (Res.ok (t1111 * t1112))).bind fun (t1113 : Int) => ((Res.ok u_)).bind fun (t1114 : Int) => Res.need (CMulX t1113 t1114) (Res.ok (t1113 * t1114))).bind fun (t1115 : Int) => ((Res.ok u_)).bind fun (t1116 : Int) => Res.need (CMulX t1115 t1116) (Res.ok (t1115 * t1116))).bind fun (t1117 : Int) => ((Res.ok u_)).bind fun (t1118 : Int) => Res.need (CMulX t1117 t1118) (Res.ok (t1117 * t1118))).bind fun a1124 => (Res.ok ()).bind fun a1125 => Res.ok (a1124, a1125)).bind fun a1123 => Res.ok (a1122, a1123)).bind fun a1121 => Res.ok (a1120, a1121)).bind fun p1119 => m_Curve_init p1119.1 p1119.2.1 p1119.2.2.1).bind fun (other_ : O_Curve) =>   (((((Res.ok other_)).bind fun a1127 => (Res.ok ()).bind fun a1128 => Res.ok (a1127, a1128)).bind fun p1126 => m_count_points p1126.1).bind fun (t1129 : Int) => ((Res.ok count_)).bind fun (t1130 : Int) => Res.ok (!decide (t1129 = t1130))).bind fun b => cond b   ((Res.ok false))   (((((((Res.ok script_)).bind fun a1132 => (((Res.ok (7 : Int))).bind fun a1134 => (Res.ok ()).bind fun a1135 => Res.ok (a1134, a1135)).bind fun a1133 => Res.ok (a1132, a1133)).bind fun p1131 => m_u_law_cell p1131.1 p1131.2.1).bind fun (t1136 : Int) => ((Res.ok (100003 : Int))).bind fun (t1137 : Int) => Res.ok (t1136 % t1137)).bind fun (t1138 : Int) => ((Res.ok (50000 : Int))).bind fun (t1139 : Int) => Res.ok (t1138 - t1139)).bind fun (factor_ : Int) =>   (((((Res.ok first_)).bind fun (x : (T2 Int Int)) => Res.ok (some x)).bind fun a1159 => ((((Res.ok second_)).bind fun (x : (T2 Int Int)) => Res.ok (some x)).bind fun a1161 => (((Res.ok (none : (Option (T2 Int Int))))).bind fun a1163 => (((((Res.ok prime_)).bind fun a1150 => (((Res.ok a_)).bind fun a1152 => ((((Res.ok first_)).bind fun (x : (T2 Int Int)) => Res.ok (some x)).bind fun a1154 => ((((Res.ok second_)).bind fun (x : (T2 Int Int)) => Res.ok (some x)).bind fun a1156 => (Res.ok ()).bind fun a1157 => Res.ok (a1156, a1157)).bind fun a1155 => Res.ok (a1154, a1155)).bind fun a1153 => Res.ok (a1152, a1153)).bind fun a1151 => Res.ok (a1150, a1151)).bind fun p1149 => m_u_law_add p1149.1 p1149.2.1 p1149.2.2.1 p1149.2.2.2.1).bind fun a1165 => (Res.ok ()).bind fun a1166 => Res.ok (a1165, a1166)).bind fun a1164 => Res.ok (a1163, a1164)).bind fun a1162 => Res.ok (a1161, a1162)).bind fun a1160 => Res.ok (a1159, a1160)).bind fun p1158 => Res.ok ([p1158.1, p1158.2.1, p1158.2.2.1, p1158.2.2.2.1] : List (Option (T2 Int Int)))).bind fun (xs1230 : List (Option (T2 Int Int))) => m_law_l5 prime_ second_ curve_ u_ other_ factor_ (m_law_k7) xs1230 ())
noncomputable def m_law (script_ : (Ro Int)) : Res Bool :=
  ((((((Res.ok script_)).bind fun a958 => (((Res.ok (0 : Int))).bind fun a960 => (Res.ok ()).bind fun a961 => Res.ok (a960, a961)).bind fun a959 => Res.ok (a958, a959)).bind fun p957 => m_u_law_cell p957.1 p957.2.1).bind fun a963 => (Res.ok ()).bind fun a964 => Res.ok (a963, a964)).bind fun p962 => m_u_law_prime p962.1).bind fun (prime_ : Int) =>   ((((Res.ok script_)).bind fun a966 => (((Res.ok (1 : Int))).bind fun a968 => (((Res.ok prime_)).bind fun a970 => (Res.ok ()).bind fun a971 => Res.ok (a970, a971)).bind fun a969 => Res.ok (a968, a969)).bind fun a967 => Res.ok (a966, a967)).bind fun p965 => m_u_law_curve_and_points p965.1 p965.2.1 p965.2.2.1).bind fun (u972 : (T4 Int Int (T2 Int Int) (T2 Int Int))) =>   (fun (a_ : Int) (b_ : Int) (first_ : (T2 Int Int)) (second_ : (T2 Int Int)) => ((((Res.ok prime_)).bind fun a974 => (((Res.ok a_)).bind fun a976 => (((Res.ok b_)).bind fun a978 => (Res.ok ()).bind fun a979 => Res.ok (a978, a979)).bind fun a977 => Res.ok (a976, a977)).bind fun a975 => Res.ok (a974, a975)).bind fun p973 => m_u_law_singular p973.1 p973.2.1 p973.2.2.1).bind fun b => cond b   ((Res.ok true))   (((((Res.ok prime_)).bind fun a981 => (((Res.ok a_)).bind fun a983 => (((Res.ok b_)).bind fun a985 => (Res.ok ()).bind fun a986 => Res.ok (a985, a986)).bind fun a984 => Res.ok (a983, a984)).bind fun a982 => Res.ok (a981, a982)).bind fun p980 => m_Curve_init p980.1 p980.2.1 p980.2.2.1).bind fun (curve_ : O_Curve) =>   ((((Res.ok prime_)).bind fun a988 => (Res.ok ()).bind fun a989 => Res.ok (a988, a989)).bind fun p987 => m_u_law_lowest p987.1).bind fun (g_ : Int) =>   ((((Res.ok prime_)).bind fun a1001 => (((((Res.ok a_)).bind fun (t990 : Int) => ((Res.ok g_)).bind fun (t991 : Int) => Res.need (CMulX t990 t991) (Res.ok (t990 * t991))).bind fun (t992 : Int) => ((Res.ok g_)).bind fun (t993 : Int) => Res.need (CMulX t992 t993) (Res.ok (t992 * t993))).bind fun a1003 => ((((((Res.ok b_)).bind fun (t994 : Int) => ((Res.ok g_)).bind fun (t995 : Int) => Res.need (CMulX t994 t995) (Res.ok (t994 * t995))).bind fun (t996 : Int) => ((Res.ok g_)).bind fun (t997 : Int) => Res.need (CMulX t996 t997) (Res.ok (t996 * t997))).bind fun (t998 : Int) => ((Res.ok g_)).bind fun (t999 : Int) => Res.need (CMulX t998 t999) (Res.ok (t998 * t999))).bind fun a1005 => (Res.ok ()).bind fun a1006 => Res.ok (a1005, a1006)).bind fun a1004 => Res.ok (a1003, a1004)).bind fun a1002 => Res.ok (a1001, a1002)).bind fun p1000 => m_Curve_init p1000.1 p1000.2.1 p1000.2.2.1).bind fun (twist_ : O_Curve) =>   ((((Res.ok curve_)).bind fun a1008 => (Res.ok ()).bind fun a1009 => Res.ok (a1008, a1009)).bind fun p1007 => m_count_points p1007.1).bind fun (count_ : Int) =>   ((((Res.ok count_)).bind fun (t1013 : Int) => ((((Res.ok twist_)).bind fun a1011 => (Res.ok ()).bind fun a1012 => Res.ok (a1011, a1012)).bind fun p1010 => m_count_points p1010.1).bind fun (t1014 : Int) => Res.ok (t1013 + t1014)).bind fun (t1019 : Int) => ((((Res.ok (2 : Int))).bind fun (t1015 : Int) => ((Res.ok prime_)).bind fun (t1016 : Int) => Res.ok (t1015 * t1016)).bind fun (t1017 : Int) => ((Res.ok (2 : Int))).bind fun (t1018 : Int) => Res.ok (t1017 + t1018)).bind fun (t1020 : Int) => Res.ok (!decide (t1019 = t1020))).bind fun b => cond b   ((Res.ok false))   ((((Res.ok prime_)).bind fun (t1021 : Int) => Res.need (okRange t1021) (Res.ok (pyRange 0 t1021))).bind fun (xs1231 : List Int) => m_law_l3 prime_ curve_ g_ twist_ (m_law_k8 script_ prime_ a_ b_ first_ second_ curve_ count_) xs1231 ()))) u972.a u972.b u972.c u972.e
theorem ok_law {P : Program} {w : World} {K : PySem.W.Frag} {mg : Str → Option Value} {base : Heap} (T : Facts K mg) {fd : FuncData} (F : FnP K "law" "law" s_law (He.ga K "law") fd) :
    FnOk P w K mg base (L2.CX P w) 8 (He.ga K "law") fd ["script"] (spM K (fun (p : (Ro Int) × Unit) => m_law p.1)) := by
  obtain ⟨fd_Curve_init, F_Curve_init⟩ := T.d_Curve_init
  have G_Curve_init := ok_Curve_init (P := P) (w := w) (base := base) T F_Curve_init
  have b_Curve_init : Binds K fd_Curve_init ["self", "prime", "a", "b"] [] := F_Curve_init.bindsN fun _ _ _ _ _ _ us hl => match us, hl with | [_, _, _, _], _ => rfl
  obtain ⟨fd_Curve_add, F_Curve_add⟩ := T.d_Curve_add
  have G_Curve_add := ok_Curve_add (P := P) (w := w) (base := base) T F_Curve_add
  have b_Curve_add : Binds K fd_Curve_add ["self", "first", "second"] [] := F_Curve_add.bindsN fun _ _ _ _ _ _ us hl => match us, hl with | [_, _, _], _ => rfl
  obtain ⟨fd_Curve_has, F_Curve_has⟩ := T.d_Curve_has
  have G_Curve_has := ok_Curve_has (P := P) (w := w) (base := base) T F_Curve_has
  have b_Curve_has : Binds K fd_Curve_has ["self", "point"] [] := F_Curve_has.bindsN fun _ _ _ _ _ _ us hl => match us, hl with | [_, _], _ => rfl
  obtain ⟨fd_Curve_lift, F_Curve_lift⟩ := T.d_Curve_lift
  have G_Curve_lift := ok_Curve_lift (P := P) (w := w) (base := base) T F_Curve_lift
  have b_Curve_lift : Binds K fd_Curve_lift ["self", "x", "odd"] [] := F_Curve_lift.bindsN fun _ _ _ _ _ _ us hl => match us, hl with | [_, _, _], _ => rfl
  obtain ⟨fd_Curve_multiply, F_Curve_multiply⟩ := T.d_Curve_multiply
  have G_Curve_multiply := ok_Curve_multiply (P := P) (w := w) (base := base) T F_Curve_multiply
  have b_Curve_multiply : Binds K fd_Curve_multiply ["self", "factor", "point"] [] := F_Curve_multiply.bindsN fun _ _ _ _ _ _ us hl => match us, hl with | [_, _, _], _ => rfl
  obtain ⟨fd_u_law_add, F_u_law_add⟩ := T.d_u_law_add
  have G_u_law_add := ok_u_law_add (P := P) (w := w) (base := base) T F_u_law_add
  have b_u_law_add : Binds K fd_u_law_add ["prime", "a", "first", "second"] [] := F_u_law_add.bindsN fun _ _ _ _ _ _ us hl => match us, hl with | [_, _, _, _], _ => rfl
  obtain ⟨fd_u_law_cell, F_u_law_cell⟩ := T.d_u_law_cell
  have G_u_law_cell := ok_u_law_cell (P := P) (w := w) (base := base) T F_u_law_cell
  have b_u_law_cell : Binds K fd_u_law_cell ["script", "k"] [] := F_u_law_cell.bindsN fun _ _ _ _ _ _ us hl => match us, hl with | [_, _], _ => rfl
  obtain ⟨fd_u_law_curve_and_points, F_u_law_curve_and_points⟩ := T.d_u_law_curve_and_points
  have G_u_law_curve_and_points := ok_u_law_curve_and_points (P := P) (w := w) (base := base) T F_u_law_curve_and_points
  have b_u_law_curve_and_points : Binds K fd_u_law_curve_and_points ["script", "at", "prime"] [] := F_u_law_curve_and_points.bindsN fun _ _ _ _ _ _ us hl => match us, hl with | [_, _, _], _ => rfl
  obtain ⟨fd_u_law_lowest, F_u_law_lowest⟩ := T.d_u_law_lowest
  have G_u_law_lowest := ok_u_law_lowest (P := P) (w := w) (base := base) T F_u_law_lowest
  have b_u_law_lowest : Binds K fd_u_law_lowest ["prime"] [] := F_u_law_lowest.bindsN fun _ _ _ _ _ _ us hl => match us, hl with | [_], _ => rfl
  obtain ⟨fd_u_law_moved, F_u_law_moved⟩ := T.d_u_law_moved
  have G_u_law_moved := ok_u_law_moved (P := P) (w := w) (base := base) T F_u_law_moved
  have b_u_law_moved : Binds K fd_u_law_moved ["prime", "u", "point"] [] := F_u_law_moved.bindsN fun _ _ _ _ _ _ us hl => match us, hl with | [_, _, _], _ => rfl
  obtain ⟨fd_u_law_prime, F_u_law_prime⟩ := T.d_u_law_prime
  have G_u_law_prime := ok_u_law_prime (P := P) (w := w) (base := base) T F_u_law_prime
  have b_u_law_prime : Binds K fd_u_law_prime ["cell"] [] := F_u_law_prime.bindsN fun _ _ _ _ _ _ us hl => match us, hl with | [_], _ => rfl
  obtain ⟨fd_u_law_residue, F_u_law_residue⟩ := T.d_u_law_residue
  have G_u_law_residue := ok_u_law_residue (P := P) (w := w) (base := base) T F_u_law_residue
  have b_u_law_residue : Binds K fd_u_law_residue ["cell", "prime"] [] := F_u_law_residue.bindsN fun _ _ _ _ _ _ us hl => match us, hl with | [_, _], _ => rfl
  obtain ⟨fd_u_law_singular, F_u_law_singular⟩ := T.d_u_law_singular
  have G_u_law_singular := ok_u_law_singular (P := P) (w := w) (base := base) T F_u_law_singular
  have b_u_law_singular : Binds K fd_u_law_singular ["prime", "a", "b"] [] := F_u_law_singular.bindsN fun _ _ _ _ _ _ us hl => match us, hl with | [_, _, _], _ => rfl
  obtain ⟨fd_count_points, F_count_points⟩ := T.d_count_points
  have G_count_points := ok_count_points (P := P) (w := w) (base := base) T F_count_points
  have b_count_points : Binds K fd_count_points ["curve"] [] := F_count_points.bindsN fun _ _ _ _ _ _ us hl => match us, hl with | [_], _ => rfl
  refine fn_ok F sc_law (fun y => rfl) (fun cdv A outer s H E hr => ?_)
  refine ⟨_, (pss_cons (ps_set (i := 1) sc_law.nd rfl (Or.inl rfl) (pe_callS G_u_law_prime (hr.mono (by decide)) rfl T.g_u_law_prime F_u_law_prime.kp b_u_law_prime (fun σ => passAt (takes_of rfl rfl rfl rfl) σ) (pa_cons (pe_callS G_u_law_cell (hr.mono (by decide)) rfl T.g_u_law_cell F_u_law_cell.kp b_u_law_cell (fun σ => passAt (takes_of rfl rfl rfl rfl) σ) (pa_cons (pv 0) (pa_cons pe_int pa_nil))) pa_nil))) (pss_cons (ps_asg (pe_callS G_u_law_curve_and_points (hr.mono (by decide)) rfl T.g_u_law_curve_and_points F_u_law_curve_and_points.kp b_u_law_curve_and_points (fun σ => passAt (takes_of rfl rfl rfl rfl) σ) (pa_cons (pv 0) (pa_cons pe_int (pa_cons (pv 1) pa_nil)))) (pg_tup rfl (pgs_cons (pg_name (i := 2) sc_law.nd rfl (Or.inl rfl)) (pgs_cons (pg_name (i := 3) sc_law.nd rfl (Or.inl rfl)) (pgs_cons (pg_name (i := 4) sc_law.nd rfl (Or.inl rfl)) (pgs_cons (pg_name (i := 5) sc_law.nd rfl (Or.inl rfl)) pgs_nil)))))) (pss_cons (ps_if (pt_val (pe_callS G_u_law_singular (hr.mono (by decide)) rfl T.g_u_law_singular F_u_law_singular.kp b_u_law_singular (fun σ => passAt (takes_of rfl rfl rfl rfl) σ) (pa_cons (pv 1) (pa_cons (pv 2) (pa_cons (pv 3) pa_nil))))) (pss_one (ps_ret pe_bl)) pss_nil) (pss_cons (ps_set (i := 6) sc_law.nd rfl (Or.inl rfl) (pe_makeQ T.mk_Curve G_Curve_init (hr.mono (by decide)) rfl T.g_Curve b_Curve_init (fun σ => passAt (takes_of rfl rfl rfl rfl) σ) (pa_cons (pv 1) (pa_cons (pv 2) (pa_cons (pv 3) pa_nil))))) (pss_cons (ps_set (i := 7) sc_law.nd rfl (Or.inl rfl) (pe_callS G_u_law_lowest (hr.mono (by decide)) rfl T.g_u_law_lowest F_u_law_lowest.kp b_u_law_lowest (fun σ => passAt (takes_of rfl rfl rfl rfl) σ) (pa_cons (pv 1) pa_nil))) (pss_cons (ps_set (i := 8) sc_law.nd rfl (Or.inl rfl) (pe_makeQ T.mk_Curve G_Curve_init (hr.mono (by decide)) rfl T.g_Curve b_Curve_init (fun σ => passAt (takes_of rfl rfl rfl rfl) σ) (pa_cons (pv 1) (pa_cons (pe_op op_mulX (pe_op op_mulX (pv 2) (pv 7)) (pv 7)) (pa_cons (pe_op op_mulX (pe_op op_mulX (pe_op op_mulX (pv 3) (pv 7)) (pv 7)) (pv 7)) pa_nil))))) (pss_cons (ps_set (i := 9) sc_law.nd rfl (Or.inl rfl) (pe_callS G_count_points (hr.mono (by decide)) rfl T.g_count_points F_count_points.kp b_count_points (fun σ => passAt (takes_of rfl rfl rfl rfl) σ) (pa_cons (pv 6) pa_nil))) (pss_cons (ps_if (pt_cmpR op_ne (pe_op op_add (pv 9) (pe_callS G_count_points (hr.mono (by decide)) rfl T.g_count_points F_count_points.kp b_count_points (fun σ => passAt (takes_of rfl rfl rfl rfl) σ) (pa_cons (pv 8) pa_nil))) (pe_op op_add (pe_op op_mul pe_int (pv 1)) pe_int) (nomark _)) (pss_one (ps_ret pe_bl)) pss_nil) (pss_cons (ps_for (passes_of rfl) rfl (pi_range1 rfl T.n_range (pa_cons (pv 1) pa_nil)) (pg_name (i := 10) sc_law.nd rfl (Or.inl rfl)) (pss_cons (ps_set (i := 11) sc_law.nd rfl (Or.inl rfl) (pe_or (pe_cmpR op_notN (pe_methQ (pv 6) T.cl_Curve T.mt_Curve_lift G_Curve_lift (hr.mono (by decide)) b_Curve_lift (fun σ => passAt (takes_of rfl rfl rfl rfl) σ) (pa_cons (pv 10) (pa_cons pe_bl pa_nil))) pe_non (nomark _)) (pe_one (pe_cmpR op_notN (pe_methQ (pv 6) T.cl_Curve T.mt_Curve_lift G_Curve_lift (hr.mono (by decide)) b_Curve_lift (fun σ => passAt (takes_of rfl rfl rfl rfl) σ) (pa_cons (pv 10) (pa_cons pe_bl pa_nil))) pe_non (nomark _))))) (pss_cons (ps_set (i := 12) sc_law.nd rfl (Or.inl rfl) (pe_or (pe_cmpR op_notN (pe_methQ (pv 8) T.cl_Curve T.mt_Curve_lift G_Curve_lift (hr.mono (by decide)) b_Curve_lift (fun σ => passAt (takes_of rfl rfl rfl rfl) σ) (pa_cons (pe_op op_mod (pe_op op_mulX (pv 10) (pv 7)) (pv 1)) (pa_cons pe_bl pa_nil))) pe_non (nomark _)) (pe_one (pe_cmpR op_notN (pe_methQ (pv 8) T.cl_Curve T.mt_Curve_lift G_Curve_lift (hr.mono (by decide)) b_Curve_lift (fun σ => passAt (takes_of rfl rfl rfl rfl) σ) (pa_cons (pe_op op_mod (pe_op op_mulX (pv 10) (pv 7)) (pv 1)) (pa_cons pe_bl pa_nil))) pe_non (nomark _))))) (pss_cons (ps_set (i := 13) sc_law.nd rfl (Or.inl rfl) (pe_cmpR (op_eqD (Room.units hr)) (pe_methQ (pv 6) T.cl_Curve T.mt_Curve_lift G_Curve_lift (hr.mono (by decide)) b_Curve_lift (fun σ => passAt (takes_of rfl rfl rfl rfl) σ) (pa_cons (pv 10) (pa_cons pe_bl pa_nil))) (pe_tup (pa_cons (pv 10) (pa_cons pe_int pa_nil))) (nomark _))) (pss_one (ps_if (PW.pt (pw_or (PW.pt (pw_and (pt_not (pt_val (pv 11))) (pw_and1 (pt_not (pt_val (pv 12)))))) (pw_or1 (pt_cmpR op_ne (pe_and (pv 11) (pe_one (pv 12))) (pv 13) (nomark _))))) (pss_one (ps_ret pe_bl)) pss_nil)))))) (pss_cons (ps_set (i := 14) sc_law.nd rfl (Or.inl rfl) (pe_op op_add pe_int (pe_callS G_u_law_residue (hr.mono (by decide)) rfl T.g_u_law_residue F_u_law_residue.kp b_u_law_residue (fun σ => passAt (takes_of rfl rfl rfl rfl) σ) (pa_cons (pe_callS G_u_law_cell (hr.mono (by decide)) rfl T.g_u_law_cell F_u_law_cell.kp b_u_law_cell (fun σ => passAt (takes_of rfl rfl rfl rfl) σ) (pa_cons (pv 0) (pa_cons pe_int pa_nil))) (pa_cons (pe_op op_sub (pv 1) pe_int) pa_nil))))) (pss_cons (ps_set (i := 15) sc_law.nd rfl (Or.inl rfl) (pe_makeQ T.mk_Curve G_Curve_init (hr.mono (by decide)) rfl T.g_Curve b_Curve_init (fun σ => passAt (takes_of rfl rfl rfl rfl) σ) (pa_cons (pv 1) (pa_cons (pe_op op_mulX (pe_op op_mulX (pe_op op_mulX (pe_op op_mulX (pv 2) (pv 14)) (pv 14)) (pv 14)) (pv 14)) (pa_cons (pe_op op_mulX (pe_op op_mulX (pe_op op_mulX (pe_op op_mulX (pe_op op_mulX (pe_op op_mulX (pv 3) (pv 14)) (pv 14)) (pv 14)) (pv 14)) (pv 14)) (pv 14)) pa_nil))))) (pss_cons (ps_if (pt_cmpR op_ne (pe_callS G_count_points (hr.mono (by decide)) rfl T.g_count_points F_count_points.kp b_count_points (fun σ => passAt (takes_of rfl rfl rfl rfl) σ) (pa_cons (pv 15) pa_nil)) (pv 9) (nomark _)) (pss_one (ps_ret pe_bl)) pss_nil) (pss_cons (ps_set (i := 16) sc_law.nd rfl (Or.inl rfl) (pe_op op_sub (pe_op op_mod (pe_callS G_u_law_cell (hr.mono (by decide)) rfl T.g_u_law_cell F_u_law_cell.kp b_u_law_cell (fun σ => passAt (takes_of rfl rfl rfl rfl) σ) (pa_cons (pv 0) (pa_cons pe_int pa_nil))) pe_int) pe_int)) (pss_cons (ps_for (passes_of rfl) rfl (pi_list (pe_lst (pa_cons (pv 4) (pa_cons (pv 5) (pa_cons pe_non (pa_cons (pe_callS G_u_law_add (hr.mono (by decide)) rfl T.g_u_law_add F_u_law_add.kp b_u_law_add (fun σ => passAt (takes_of rfl rfl rfl rfl) σ) (pa_cons (pv 1) (pa_cons (pv 2) (pa_cons (pv 4) (pa_cons (pv 5) pa_nil))))) pa_nil)))))) (pg_name (i := 17) sc_law.nd rfl (Or.inl rfl)) (pss_cons (ps_set (i := 18) sc_law.nd rfl (Or.inl rfl) (pe_callS G_u_law_moved (hr.mono (by decide)) rfl T.g_u_law_moved F_u_law_moved.kp b_u_law_moved (fun σ => passAt (takes_of rfl rfl rfl rfl) σ) (pa_cons (pv 1) (pa_cons (pv 14) (pa_cons (pv 17) pa_nil))))) (pss_cons (ps_if (PW.pt (pw_or (pt_not (pt_val (pe_methQ (pv 15) T.cl_Curve T.mt_Curve_has G_Curve_has (hr.mono (by decide)) b_Curve_has (fun σ => passAt (takes_of rfl rfl rfl rfl) σ) (pa_cons (pv 18) pa_nil)))) (pw_or1 (pt_cmpR (op_neD (Room.units hr)) (pe_methQ (pv 15) T.cl_Curve T.mt_Curve_multiply G_Curve_multiply (hr.mono (by decide)) b_Curve_multiply (fun σ => passAt (takes_of rfl rfl rfl rfl) σ) (pa_cons (pv 16) (pa_cons (pv 18) pa_nil))) (pe_callS G_u_law_moved (hr.mono (by decide)) rfl T.g_u_law_moved F_u_law_moved.kp b_u_law_moved (fun σ => passAt (takes_of rfl rfl rfl rfl) σ) (pa_cons (pv 1) (pa_cons (pv 14) (pa_cons (pe_methQ (pv 6) T.cl_Curve T.mt_Curve_multiply G_Curve_multiply (hr.mono (by decide)) b_Curve_multiply (fun σ => passAt (takes_of rfl rfl rfl rfl) σ) (pa_cons (pv 16) (pa_cons (pv 17) pa_nil))) pa_nil)))) (nomark _))))) (pss_one (ps_ret pe_bl)) pss_nil) (pss_one (ps_if (pt_cmpR (op_neD (Room.units hr)) (pe_methQ (pv 15) T.cl_Curve T.mt_Curve_add G_Curve_add (hr.mono (by decide)) b_Curve_add (fun σ => passAt (takes_of rfl rfl rfl rfl) σ) (pa_cons (pv 18) (pa_cons (pe_callS G_u_law_moved (hr.mono (by decide)) rfl T.g_u_law_moved F_u_law_moved.kp b_u_law_moved (fun σ => passAt (takes_of rfl rfl rfl rfl) σ) (pa_cons (pv 1) (pa_cons (pv 14) (pa_cons (pv 5) pa_nil)))) pa_nil))) (pe_callS G_u_law_moved (hr.mono (by decide)) rfl T.g_u_law_moved F_u_law_moved.kp b_u_law_moved (fun σ => passAt (takes_of rfl rfl rfl rfl) σ) (pa_cons (pv 1) (pa_cons (pv 14) (pa_cons (pe_methQ (pv 6) T.cl_Curve T.mt_Curve_add G_Curve_add (hr.mono (by decide)) b_Curve_add (fun σ => passAt (takes_of rfl rfl rfl rfl) σ) (pa_cons (pv 17) (pa_cons (pv 5) pa_nil))) pa_nil)))) (nomark _)) (pss_one (ps_ret pe_bl)) pss_nil))))) (pss_one (ps_ret pe_bl)))))))))))))))), ?_⟩
  rintro ⟨script_, ⟨⟩⟩ F0 H0 Q KP L
  show Blk K F0 H0 KP _ [some (.im (toD script_)), none, none, none, none, none, none, none, none, none, none, none, none, none, none, none, none, none, none] (m_law script_)
  unfold m_law
  have hs_ := ((ev_call (f := (fun (p : Int × Unit) => m_u_law_prime p.1)) (ea_cons (ev_call (f := (fun (p : (Ro Int) × Int × Unit) => m_u_law_cell p.1 p.2.1)) (ea_cons (ev_var (i := 0) (x := script_) rfl) (ea_cons (ev_int (i := 0)) ea_nil))) ea_nil)) : EvX K (W0 E) [some (.im (toD script_)), none, none, none, none, none, none, none, none, none, none, none, none, none, none, none, none, none, none] _ _)
  refine blk_seq (blk_set (i := 1) L trivial hs_ fun prime_ => ?_)
  show Blk _ _ _ _ _ [some (.im (toD script_)), some (.im (toD prime_)), none, none, none, none, none, none, none, none, none, none, none, none, none, none, none, none, none] _
  try refine Blk.nx ?_
  have hs_ := ((ev_call (f := (fun (p : (Ro Int) × Int × Int × Unit) => m_u_law_curve_and_points p.1 p.2.1 p.2.2.1)) (ea_cons (ev_var (i := 0) (x := script_) rfl) (ea_cons (ev_int (i := 1)) (ea_cons (ev_var (i := 1) (x := prime_) rfl) ea_nil)))) : EvX K (W0 E) [some (.im (toD script_)), some (.im (toD prime_)), none, none, none, none, none, none, none, none, none, none, none, none, none, none, none, none, none] _ _)
  refine blk_seq (blk_asg L trivial hs_ (fun _ => (gx_tup (gxs_cons gx_name (gxs_cons gx_name (gxs_cons gx_name (gxs_cons gx_name gxs_nil)))) rfl)) fun u972 => ?_)
  show Blk _ _ _ _ _ [some (.im (toD script_)), some (.im (toD prime_)), some (.im (toD u972.a)), some (.im (toD u972.b)), some (.im (toD u972.c)), some (.im (toD u972.e)), none, none, none, none, none, none, none, none, none, none, none, none, none] ((fun (a_ : Int) (b_ : Int) (first_ : (T2 Int Int)) (second_ : (T2 Int Int)) => _) u972.a u972.b u972.c u972.e)
  generalize u972.a = a_
  generalize u972.b = b_
  generalize u972.c = first_
  generalize u972.e = second_
  show Blk _ _ _ _ _ [some (.im (toD script_)), some (.im (toD prime_)), some (.im (toD a_)), some (.im (toD b_)), some (.im (toD first_)), some (.im (toD second_)), none, none, none, none, none, none, none, none, none, none, none, none, none] _
  try refine Blk.nx ?_
  have ht_ := ((et_B (ev_call (f := (fun (p : Int × Int × Int × Unit) => m_u_law_singular p.1 p.2.1 p.2.2.1)) (ea_cons (ev_var (i := 1) (x := prime_) rfl) (ea_cons (ev_var (i := 2) (x := a_) rfl) (ea_cons (ev_var (i := 3) (x := b_) rfl) ea_nil))))) : EvT K (W0 E) [some (.im (toD script_)), some (.im (toD prime_)), some (.im (toD a_)), some (.im (toD b_)), some (.im (toD first_)), some (.im (toD second_)), none, none, none, none, none, none, none, none, none, none, none, none, none] _ _)
  refine blk_seq (blk_if2 L trivial ht_ ?_ ?_)
  · have hr_ := ((ev_bl (b := true)) : EvX K (W0 E) [some (.im (toD script_)), some (.im (toD prime_)), some (.im (toD a_)), some (.im (toD b_)), some (.im (toD first_)), some (.im (toD second_)), none, none, none, none, none, none, none, none, none, none, none, none, none] _ _)
    exact blk_ret L trivial hr_
  · refine blk_nil ?_
    try refine Blk.nx ?_
    have hs_ := ((ev_make (c := "Curve") (f := (fun (p : Int × Int × Int × Unit) => m_Curve_init p.1 p.2.1 p.2.2.1)) (ea_cons (ev_var (i := 1) (x := prime_) rfl) (ea_cons (ev_var (i := 2) (x := a_) rfl) (ea_cons (ev_var (i := 3) (x := b_) rfl) ea_nil)))) : EvX K (W0 E) [some (.im (toD script_)), some (.im (toD prime_)), some (.im (toD a_)), some (.im (toD b_)), some (.im (toD first_)), some (.im (toD second_)), none, none, none, none, none, none, none, none, none, none, none, none, none] _ _)
    refine blk_seq (blk_set (i := 6) L trivial hs_ fun curve_ => ?_)
    show Blk _ _ _ _ _ [some (.im (toD script_)), some (.im (toD prime_)), some (.im (toD a_)), some (.im (toD b_)), some (.im (toD first_)), some (.im (toD second_)), some (.im (toD curve_)), none, none, none, none, none, none, none, none, none, none, none, none] _
    try refine Blk.nx ?_
    have hs_ := ((ev_call (f := (fun (p : Int × Unit) => m_u_law_lowest p.1)) (ea_cons (ev_var (i := 1) (x := prime_) rfl) ea_nil)) : EvX K (W0 E) [some (.im (toD script_)), some (.im (toD prime_)), some (.im (toD a_)), some (.im (toD b_)), some (.im (toD first_)), some (.im (toD second_)), some (.im (toD curve_)), none, none, none, none, none, none, none, none, none, none, none, none] _ _)
    refine blk_seq (blk_set (i := 7) L trivial hs_ fun g_ => ?_)
    show Blk _ _ _ _ _ [some (.im (toD script_)), some (.im (toD prime_)), some (.im (toD a_)), some (.im (toD b_)), some (.im (toD first_)), some (.im (toD second_)), some (.im (toD curve_)), some (.im (toD g_)), none, none, none, none, none, none, none, none, none, none, none] _
    try refine Blk.nx ?_
    have hs_ := ((ev_make (c := "Curve") (f := (fun (p : Int × Int × Int × Unit) => m_Curve_init p.1 p.2.1 p.2.2.1)) (ea_cons (ev_var (i := 1) (x := prime_) rfl) (ea_cons (ev_op (opx_I (C := CMulX) (g := fun i j => i * j)) mild_need (ev_op (opx_I (C := CMulX) (g := fun i j => i * j)) mild_need (ev_var (i := 2) (x := a_) rfl) (ev_var (i := 7) (x := g_) rfl)) (ev_var (i := 7) (x := g_) rfl)) (ea_cons (ev_op (opx_I (C := CMulX) (g := fun i j => i * j)) mild_need (ev_op (opx_I (C := CMulX) (g := fun i j => i * j)) mild_need (ev_op (opx_I (C := CMulX) (g := fun i j => i * j)) mild_need (ev_var (i := 3) (x := b_) rfl) (ev_var (i := 7) (x := g_) rfl)) (ev_var (i := 7) (x := g_) rfl)) (ev_var (i := 7) (x := g_) rfl)) ea_nil)))) : EvX K (W0 E) [some (.im (toD script_)), some (.im (toD prime_)), some (.im (toD a_)), some (.im (toD b_)), some (.im (toD first_)), some (.im (toD second_)), some (.im (toD curve_)), some (.im (toD g_)), none, none, none, none, none, none, none, none, none, none, none] _ _)
    refine blk_seq (blk_set (i := 8) L trivial hs_ fun twist_ => ?_)
    show Blk _ _ _ _ _ [some (.im (toD script_)), some (.im (toD prime_)), some (.im (toD a_)), some (.im (toD b_)), some (.im (toD first_)), some (.im (toD second_)), some (.im (toD curve_)), some (.im (toD g_)), some (.im (toD twist_)), none, none, none, none, none, none, none, none, none, none] _
    try refine Blk.nx ?_
    have hs_ := ((ev_call (f := (fun (p : O_Curve × Unit) => m_count_points p.1)) (ea_cons (ev_var (i := 6) (x := curve_) rfl) ea_nil)) : EvX K (W0 E) [some (.im (toD script_)), some (.im (toD prime_)), some (.im (toD a_)), some (.im (toD b_)), some (.im (toD first_)), some (.im (toD second_)), some (.im (toD curve_)), some (.im (toD g_)), some (.im (toD twist_)), none, none, none, none, none, none, none, none, none, none] _ _)
    refine blk_seq (blk_set (i := 9) L trivial hs_ fun count_ => ?_)
    show Blk _ _ _ _ _ [some (.im (toD script_)), some (.im (toD prime_)), some (.im (toD a_)), some (.im (toD b_)), some (.im (toD first_)), some (.im (toD second_)), some (.im (toD curve_)), some (.im (toD g_)), some (.im (toD twist_)), some (.im (toD count_)), none, none, none, none, none, none, none, none, none] _
    try refine Blk.nx ?_
    have ht_ := ((et_test (ev_op opx_neI mild_ok (ev_op (opx_I0 (g := fun i j => i + j)) mild_ok (ev_var (i := 9) (x := count_) rfl) (ev_call (f := (fun (p : O_Curve × Unit) => m_count_points p.1)) (ea_cons (ev_var (i := 8) (x := twist_) rfl) ea_nil))) (ev_op (opx_I0 (g := fun i j => i + j)) mild_ok (ev_opI (C := CMul) (g := fun i j => i * j) (fun x y h _ => by cases h; exact .inl (by decide)) (ev_int (i := 2)) (ev_var (i := 1) (x := prime_) rfl)) (ev_int (i := 2))))) : EvT K (W0 E) [some (.im (toD script_)), some (.im (toD prime_)), some (.im (toD a_)), some (.im (toD b_)), some (.im (toD first_)), some (.im (toD second_)), some (.im (toD curve_)), some (.im (toD g_)), some (.im (toD twist_)), some (.im (toD count_)), none, none, none, none, none, none, none, none, none] _ _)
    refine blk_seq (blk_if2 L trivial ht_ ?_ ?_)
    · have hr_ := ((ev_bl (b := false)) : EvX K (W0 E) [some (.im (toD script_)), some (.im (toD prime_)), some (.im (toD a_)), some (.im (toD b_)), some (.im (toD first_)), some (.im (toD second_)), some (.im (toD curve_)), some (.im (toD g_)), some (.im (toD twist_)), some (.im (toD count_)), none, none, none, none, none, none, none, none, none] _ _)
      exact blk_ret L trivial hr_
    · refine blk_nil ?_
      try refine Blk.nx ?_
      have hi_ := ((ei_range1 (ev_var (i := 1) (x := prime_) rfl)) : EvI K (W0 E) [some (.im (toD script_)), some (.im (toD prime_)), some (.im (toD a_)), some (.im (toD b_)), some (.im (toD first_)), some (.im (toD second_)), some (.im (toD curve_)), some (.im (toD g_)), some (.im (toD twist_)), some (.im (toD count_)), none, none, none, none, none, none, none, none, none] _ _)
      refine blk_seq (blk_for (S := Unit) (m_law_l3 prime_ curve_ g_ twist_ (m_law_k8 script_ prime_ a_ b_ first_ second_ curve_ count_)) (m_law_k8 script_ prime_ a_ b_ first_ second_ curve_ count_) (fun _ => [some (.im (toD script_)), some (.im (toD prime_)), some (.im (toD a_)), some (.im (toD b_)), some (.im (toD first_)), some (.im (toD second_)), some (.im (toD curve_)), some (.im (toD g_)), some (.im (toD twist_)), some (.im (toD count_)), none, none, none, none, none, none, none, none, none]) () L trivial hi_ (fun _ => gx_name) (.same (.same (.same (.same (.same (.same (.same (.same (.same (.same (.same (.same (.same (.same (.same (.same (.same (.same (.same .nil))))))))))))))))))) (fun _ => rfl) ?_ ?_)
      · intro F3 L3 hB3 x1022 r3 s_ N_ hN3
        obtain ⟨⟩ := s_
        show Blk _ _ _ _ _ [some (.im (toD script_)), some (.im (toD prime_)), some (.im (toD a_)), some (.im (toD b_)), some (.im (toD first_)), some (.im (toD second_)), some (.im (toD curve_)), some (.im (toD g_)), some (.im (toD twist_)), some (.im (toD count_)), some (.im (toD x1022)), none, none, none, none, none, none, none, none] (m_law_l3 prime_ curve_ g_ twist_ (m_law_k8 script_ prime_ a_ b_ first_ second_ curve_ count_) (x1022 :: r3) ())
        rw [m_law_l3]
        show Blk _ _ _ _ _ _ ((fun (x_ : Int) => _) x1022)
        generalize x1022 = x_
        show Blk _ _ _ _ _ [some (.im (toD script_)), some (.im (toD prime_)), some (.im (toD a_)), some (.im (toD b_)), some (.im (toD first_)), some (.im (toD second_)), some (.im (toD curve_)), some (.im (toD g_)), some (.im (toD twist_)), some (.im (toD count_)), some (.im (toD x_)), none, none, none, none, none, none, none, none] _
        have hs_ := ((ev_orV (ev_op opx_notN mild_ok (ev_meth (c := "Curve") (m := "lift") (ks := ["prime", "a", "b"]) (f := (fun (p : O_Curve × Int × Bool × Unit) => m_Curve_lift p.1 p.2.1 p.2.2.1)) (ev_var (i := 6) (x := curve_) rfl) (ea_cons (ev_var (i := 10) (x := x_) rfl) (ea_cons (ev_bl (b := false)) ea_nil)) (by decide +kernel) (fun _ => ⟨_, rfl⟩)) ev_non) (ev_op opx_notN mild_ok (ev_meth (c := "Curve") (m := "lift") (ks := ["prime", "a", "b"]) (f := (fun (p : O_Curve × Int × Bool × Unit) => m_Curve_lift p.1 p.2.1 p.2.2.1)) (ev_var (i := 6) (x := curve_) rfl) (ea_cons (ev_var (i := 10) (x := x_) rfl) (ea_cons (ev_bl (b := true)) ea_nil)) (by decide +kernel) (fun _ => ⟨_, rfl⟩)) ev_non)) : EvX K (W0 E) [some (.im (toD script_)), some (.im (toD prime_)), some (.im (toD a_)), some (.im (toD b_)), some (.im (toD first_)), some (.im (toD second_)), some (.im (toD curve_)), some (.im (toD g_)), some (.im (toD twist_)), some (.im (toD count_)), some (.im (toD x_)), none, none, none, none, none, none, none, none] _ _)
        refine blk_seq (blk_set (i := 11) L3 trivial hs_ fun here_ => ?_)
        show Blk _ _ _ _ _ [some (.im (toD script_)), some (.im (toD prime_)), some (.im (toD a_)), some (.im (toD b_)), some (.im (toD first_)), some (.im (toD second_)), some (.im (toD curve_)), some (.im (toD g_)), some (.im (toD twist_)), some (.im (toD count_)), some (.im (toD x_)), some (.im (toD here_)), none, none, none, none, none, none, none] _
        try refine Blk.nx ?_
        have hs_ := ((ev_orV (ev_op opx_notN mild_ok (ev_meth (c := "Curve") (m := "lift") (ks := ["prime", "a", "b"]) (f := (fun (p : O_Curve × Int × Bool × Unit) => m_Curve_lift p.1 p.2.1 p.2.2.1)) (ev_var (i := 8) (x := twist_) rfl) (ea_cons (ev_op (opx_I (C := (fun _ j => 0 < j)) (g := fun i j => i % j)) mild_need (ev_op (opx_I (C := CMulX) (g := fun i j => i * j)) mild_need (ev_var (i := 10) (x := x_) rfl) (ev_var (i := 7) (x := g_) rfl)) (ev_var (i := 1) (x := prime_) rfl)) (ea_cons (ev_bl (b := false)) ea_nil)) (by decide +kernel) (fun _ => ⟨_, rfl⟩)) ev_non) (ev_op opx_notN mild_ok (ev_meth (c := "Curve") (m := "lift") (ks := ["prime", "a", "b"]) (f := (fun (p : O_Curve × Int × Bool × Unit) => m_Curve_lift p.1 p.2.1 p.2.2.1)) (ev_var (i := 8) (x := twist_) rfl) (ea_cons (ev_op (opx_I (C := (fun _ j => 0 < j)) (g := fun i j => i % j)) mild_need (ev_op (opx_I (C := CMulX) (g := fun i j => i * j)) mild_need (ev_var (i := 10) (x := x_) rfl) (ev_var (i := 7) (x := g_) rfl)) (ev_var (i := 1) (x := prime_) rfl)) (ea_cons (ev_bl (b := true)) ea_nil)) (by decide +kernel) (fun _ => ⟨_, rfl⟩)) ev_non)) : EvX K (W0 E) [some (.im (toD script_)), some (.im (toD prime_)), some (.im (toD a_)), some (.im (toD b_)), some (.im (toD first_)), some (.im (toD second_)), some (.im (toD curve_)), some (.im (toD g_)), some (.im (toD twist_)), some (.im (toD count_)), some (.im (toD x_)), some (.im (toD here_)), none, none, none, none, none, none, none] _ _)
        refine blk_seq (blk_set (i := 12) L3 trivial hs_ fun there_ => ?_)
        show Blk _ _ _ _ _ [some (.im (toD script_)), some (.im (toD prime_)), some (.im (toD a_)), some (.im (toD b_)), some (.im (toD first_)), some (.im (toD second_)), some (.im (toD curve_)), some (.im (toD g_)), some (.im (toD twist_)), some (.im (toD count_)), some (.im (toD x_)), some (.im (toD here_)), some (.im (toD there_)), none, none, none, none, none, none] _
        try refine Blk.nx ?_
        have hs_ := ((ev_op opx_eqD mild_need (ev_meth (c := "Curve") (m := "lift") (ks := ["prime", "a", "b"]) (f := (fun (p : O_Curve × Int × Bool × Unit) => m_Curve_lift p.1 p.2.1 p.2.2.1)) (ev_var (i := 6) (x := curve_) rfl) (ea_cons (ev_var (i := 10) (x := x_) rfl) (ea_cons (ev_bl (b := false)) ea_nil)) (by decide +kernel) (fun _ => ⟨_, rfl⟩)) (ev_tup (f := (fun y => T2.mk y.1 y.2.1)) (ea_cons (ev_var (i := 10) (x := x_) rfl) (ea_cons (ev_int (i := 0)) ea_nil)) (fun _ => rfl) (fun _ => by show 2 ≤ 100000; decide))) : EvX K (W0 E) [some (.im (toD script_)), some (.im (toD prime_)), some (.im (toD a_)), some (.im (toD b_)), some (.im (toD first_)), some (.im (toD second_)), some (.im (toD curve_)), some (.im (toD g_)), some (.im (toD twist_)), some (.im (toD count_)), some (.im (toD x_)), some (.im (toD here_)), some (.im (toD there_)), none, none, none, none, none, none] _ _)
        refine blk_seq (blk_set (i := 13) L3 trivial hs_ fun zero_ => ?_)
        show Blk _ _ _ _ _ [some (.im (toD script_)), some (.im (toD prime_)), some (.im (toD a_)), some (.im (toD b_)), some (.im (toD first_)), some (.im (toD second_)), some (.im (toD curve_)), some (.im (toD g_)), some (.im (toD twist_)), some (.im (toD count_)), some (.im (toD x_)), some (.im (toD here_)), some (.im (toD there_)), some (.im (toD zero_)), none, none, none, none, none] _
        try refine Blk.nx ?_
        have ht_ := ((et_or (et_and (et_not (et_B (ev_var (i := 11) (x := here_) rfl))) (et_not (et_B (ev_var (i := 12) (x := there_) rfl)))) (et_test (ev_op opx_neB mild_ok (ev_andV (ev_var (i := 11) (x := here_) rfl) (ev_var (i := 12) (x := there_) rfl)) (ev_var (i := 13) (x := zero_) rfl)))) : EvT K (W0 E) [some (.im (toD script_)), some (.im (toD prime_)), some (.im (toD a_)), some (.im (toD b_)), some (.im (toD first_)), some (.im (toD second_)), some (.im (toD curve_)), some (.im (toD g_)), some (.im (toD twist_)), some (.im (toD count_)), some (.im (toD x_)), some (.im (toD here_)), some (.im (toD there_)), some (.im (toD zero_)), none, none, none, none, none] _ _)
        refine blk_if2 L3 trivial ht_ ?_ ?_
        · have hr_ := ((ev_bl (b := false)) : EvX K (W0 E) [some (.im (toD script_)), some (.im (toD prime_)), some (.im (toD a_)), some (.im (toD b_)), some (.im (toD first_)), some (.im (toD second_)), some (.im (toD curve_)), some (.im (toD g_)), some (.im (toD twist_)), some (.im (toD count_)), some (.im (toD x_)), some (.im (toD here_)), some (.im (toD there_)), some (.im (toD zero_)), none, none, none, none, none] _ _)
          exact blk_ret L3 trivial hr_
        · refine blk_nil ?_
          try refine Blk.nx ?_
          exact (hN3 ()).weak (.same (.same (.same (.same (.same (.same (.same (.same (.same (.same (.drop (.drop (.drop (.drop (.same (.same (.same (.same (.same .nil)))))))))))))))))))
      · intro _
        show Blk _ _ _ _ _ [some (.im (toD script_)), some (.im (toD prime_)), some (.im (toD a_)), some (.im (toD b_)), some (.im (toD first_)), some (.im (toD second_)), some (.im (toD curve_)), some (.im (toD g_)), some (.im (toD twist_)), some (.im (toD count_)), none, none, none, none, none, none, none, none, none] ((m_law_k8 script_ prime_ a_ b_ first_ second_ curve_ count_) ())
        unfold m_law_k8
        try refine Blk.nx ?_
        have hs_ := ((ev_op (opx_I0 (g := fun i j => i + j)) mild_ok (ev_int (i := 1)) (ev_call (f := (fun (p : Int × Int × Unit) => m_u_law_residue p.1 p.2.1)) (ea_cons (ev_call (f := (fun (p : (Ro Int) × Int × Unit) => m_u_law_cell p.1 p.2.1)) (ea_cons (ev_var (i := 0) (x := script_) rfl) (ea_cons (ev_int (i := 6)) ea_nil))) (ea_cons (ev_op (opx_I0 (g := fun i j => i - j)) mild_ok (ev_var (i := 1) (x := prime_) rfl) (ev_int (i := 1))) ea_nil)))) : EvX K (W0 E) [some (.im (toD script_)), some (.im (toD prime_)), some (.im (toD a_)), some (.im (toD b_)), some (.im (toD first_)), some (.im (toD second_)), some (.im (toD curve_)), some (.im (toD g_)), some (.im (toD twist_)), some (.im (toD count_)), none, none, none, none, none, none, none, none, none] _ _)
        refine blk_seq (blk_set (i := 14) L trivial hs_ fun u_ => ?_)
        show Blk _ _ _ _ _ [some (.im (toD script_)), some (.im (toD prime_)), some (.im (toD a_)), some (.im (toD b_)), some (.im (toD first_)), some (.im (toD second_)), some (.im (toD curve_)), some (.im (toD g_)), some (.im (toD twist_)), some (.im (toD count_)), none, none, none, none, some (.im (toD u_)), none, none, none, none] _
        try refine Blk.nx ?_
        have hs_ := ((ev_make (c := "Curve") (f := (fun (p : Int × Int × Int × Unit) => m_Curve_init p.1 p.2.1 p.2.2.1)) (ea_cons (ev_var (i := 1) (x := prime_) rfl) (ea_cons (ev_op (opx_I (C := CMulX) (g := fun i j => i * j)) mild_need (ev_op (opx_I (C := CMulX) (g := fun i j => i * j)) mild_need (ev_op (opx_I (C := CMulX) (g := fun i j => i * j)) mild_need (ev_op (opx_I (C := CMulX) (g := fun i j => i * j)) mild_need (ev_var (i := 2) (x := a_) rfl) (ev_var (i := 14) (x := u_) rfl)) (ev_var (i := 14) (x := u_) rfl)) (ev_var (i := 14) (x := u_) rfl)) (ev_var (i := 14) (x := u_) rfl)) (ea_cons (ev_op (opx_I (C := CMulX) (g := fun i j => i * j)) mild_need (ev_op (opx_I (C := CMulX) (g := fun i j => i * j)) mild_need (ev_op (opx_I (C := CMulX) (g := fun i j => i * j)) mild_need (ev_op (opx_I (C := CMulX) (g := fun i j => i * j)) mild_need (ev_op (opx_I (C := CMulX) (g := fun i j => i * j)) mild_need (ev_op (opx_I (C := CMulX) (g := fun i j => i * j)) mild_need (ev_var (i := 3) (x := b_) rfl) (ev_var (i := 14) (x := u_) rfl)) (ev_var (i := 14) (x := u_) rfl)) (ev_var (i := 14) (x := u_) rfl)) (ev_var (i := 14) (x := u_) rfl)) (ev_var (i := 14) (x := u_) rfl)) (ev_var (i := 14) (x := u_) rfl)) ea_nil)))) : EvX K (W0 E) [some (.im (toD script_)), some (.im (toD prime_)), some (.im (toD a_)), some (.im (toD b_)), some (.im (toD first_)), some (.im (toD second_)), some (.im (toD curve_)), some (.im (toD g_)), some (.im (toD twist_)), some (.im (toD count_)), none, none, none, none, some (.im (toD u_)), none, none, none, none] _ _)
        refine blk_seq (blk_set (i := 15) L trivial hs_ fun other_ => ?_)
        show Blk _ _ _ _ _ [some (.im (toD script_)), some (.im (toD prime_)), some (.im (toD a_)), some (.im (toD b_)), some (.im (toD first_)), some (.im (toD second_)), some (.im (toD curve_)), some (.im (toD g_)), some (.im (toD twist_)), some (.im (toD count_)), none, none, none, none, some (.im (toD u_)), some (.im (toD other_)), none, none, none] _
        try refine Blk.nx ?_
        have ht_ := ((et_test (ev_op opx_neI mild_ok (ev_call (f := (fun (p : O_Curve × Unit) => m_count_points p.1)) (ea_cons (ev_var (i := 15) (x := other_) rfl) ea_nil)) (ev_var (i := 9) (x := count_) rfl))) : EvT K (W0 E) [some (.im (toD script_)), some (.im (toD prime_)), some (.im (toD a_)), some (.im (toD b_)), some (.im (toD first_)), some (.im (toD second_)), some (.im (toD curve_)), some (.im (toD g_)), some (.im (toD twist_)), some (.im (toD count_)), none, none, none, none, some (.im (toD u_)), some (.im (toD other_)), none, none, none] _ _)
        refine blk_seq (blk_if2 L trivial ht_ ?_ ?_)
        · have hr_ := ((ev_bl (b := false)) : EvX K (W0 E) [some (.im (toD script_)), some (.im (toD prime_)), some (.im (toD a_)), some (.im (toD b_)), some (.im (toD first_)), some (.im (toD second_)), some (.im (toD curve_)), some (.im (toD g_)), some (.im (toD twist_)), some (.im (toD count_)), none, none, none, none, some (.im (toD u_)), some (.im (toD other_)), none, none, none] _ _)
          exact blk_ret L trivial hr_
        · refine blk_nil ?_
          try refine Blk.nx ?_
          have hs_ := ((ev_op (opx_I0 (g := fun i j => i - j)) mild_ok (ev_opI (C := (fun _ j => 0 < j)) (g := fun i j => i % j) (fun x y _ h => by cases h; (show (0 : Int) < _; decide)) (ev_call (f := (fun (p : (Ro Int) × Int × Unit) => m_u_law_cell p.1 p.2.1)) (ea_cons (ev_var (i := 0) (x := script_) rfl) (ea_cons (ev_int (i := 7)) ea_nil))) (ev_int (i := 100003))) (ev_int (i := 50000))) : EvX K (W0 E) [some (.im (toD script_)), some (.im (toD prime_)), some (.im (toD a_)), some (.im (toD b_)), some (.im (toD first_)), some (.im (toD second_)), some (.im (toD curve_)), some (.im (toD g_)), some (.im (toD twist_)), some (.im (toD count_)), none, none, none, none, some (.im (toD u_)), some (.im (toD other_)), none, none, none] _ _)
          refine blk_seq (blk_set (i := 16) L trivial hs_ fun factor_ => ?_)
          show Blk _ _ _ _ _ [some (.im (toD script_)), some (.im (toD prime_)), some (.im (toD a_)), some (.im (toD b_)), some (.im (toD first_)), some (.im (toD second_)), some (.im (toD curve_)), some (.im (toD g_)), some (.im (toD twist_)), some (.im (toD count_)), none, none, none, none, some (.im (toD u_)), some (.im (toD other_)), some (.im (toD factor_)), none, none] _
          try refine Blk.nx ?_
          have hi_ := ((ei_list (ev_ofN (en_lst (f := (fun y => ([y.1, y.2.1, y.2.2.1, y.2.2.2.1] : List (Option (T2 Int Int))))) (ea_cons (ev_as (ev_var (i := 4) (x := first_) rfl) some (fun _ => rfl) rfl) (ea_cons (ev_as (ev_var (i := 5) (x := second_) rfl) some (fun _ => rfl) rfl) (ea_cons (ev_noneO (α := (T2 Int Int))) (ea_cons (ev_call (f := (fun (p : Int × Int × (Option (T2 Int Int)) × (Option (T2 Int Int)) × Unit) => m_u_law_add p.1 p.2.1 p.2.2.1 p.2.2.2.1)) (ea_cons (ev_var (i := 1) (x := prime_) rfl) (ea_cons (ev_var (i := 2) (x := a_) rfl) (ea_cons (ev_as (ev_var (i := 4) (x := first_) rfl) some (fun _ => rfl) rfl) (ea_cons (ev_as (ev_var (i := 5) (x := second_) rfl) some (fun _ => rfl) rfl) ea_nil))))) ea_nil)))) (fun _ => rfl) (fun _ => by show 4 ≤ 100000; decide)))) : EvI K (W0 E) [some (.im (toD script_)), some (.im (toD prime_)), some (.im (toD a_)), some (.im (toD b_)), some (.im (toD first_)), some (.im (toD second_)), some (.im (toD curve_)), some (.im (toD g_)), some (.im (toD twist_)), some (.im (toD count_)), none, none, none, none, some (.im (toD u_)), some (.im (toD other_)), some (.im (toD factor_)), none, none] _ _)
          refine blk_seq (blk_for (S := Unit) (m_law_l5 prime_ second_ curve_ u_ other_ factor_ (m_law_k7)) (m_law_k7) (fun _ => [some (.im (toD script_)), some (.im (toD prime_)), some (.im (toD a_)), some (.im (toD b_)), some (.im (toD first_)), some (.im (toD second_)), some (.im (toD curve_)), some (.im (toD g_)), some (.im (toD twist_)), some (.im (toD count_)), none, none, none, none, some (.im (toD u_)), some (.im (toD other_)), some (.im (toD factor_)), none, none]) () L trivial hi_ (fun _ => gx_name) (.same (.same (.same (.same (.same (.same (.same (.same (.same (.same (.same (.same (.same (.same (.same (.same (.same (.same (.same .nil))))))))))))))))))) (fun _ => rfl) ?_ ?_)
          · intro F5 L5 hB5 x1167 r5 s_ N_ hN5
            obtain ⟨⟩ := s_
            show Blk _ _ _ _ _ [some (.im (toD script_)), some (.im (toD prime_)), some (.im (toD a_)), some (.im (toD b_)), some (.im (toD first_)), some (.im (toD second_)), some (.im (toD curve_)), some (.im (toD g_)), some (.im (toD twist_)), some (.im (toD count_)), none, none, none, none, some (.im (toD u_)), some (.im (toD other_)), some (.im (toD factor_)), some (.im (toD x1167)), none] (m_law_l5 prime_ second_ curve_ u_ other_ factor_ (m_law_k7) (x1167 :: r5) ())
            rw [m_law_l5]
            show Blk _ _ _ _ _ _ ((fun (one_ : (Option (T2 Int Int))) => _) x1167)
            generalize x1167 = one_
            show Blk _ _ _ _ _ [some (.im (toD script_)), some (.im (toD prime_)), some (.im (toD a_)), some (.im (toD b_)), some (.im (toD first_)), some (.im (toD second_)), some (.im (toD curve_)), some (.im (toD g_)), some (.im (toD twist_)), some (.im (toD count_)), none, none, none, none, some (.im (toD u_)), some (.im (toD other_)), some (.im (toD factor_)), some (.im (toD one_)), none] _
            have hs_ := ((ev_call (f := (fun (p : Int × Int × (Option (T2 Int Int)) × Unit) => m_u_law_moved p.1 p.2.1 p.2.2.1)) (ea_cons (ev_var (i := 1) (x := prime_) rfl) (ea_cons (ev_var (i := 14) (x := u_) rfl) (ea_cons (ev_var (i := 17) (x := one_) rfl) ea_nil)))) : EvX K (W0 E) [some (.im (toD script_)), some (.im (toD prime_)), some (.im (toD a_)), some (.im (toD b_)), some (.im (toD first_)), some (.im (toD second_)), some (.im (toD curve_)), some (.im (toD g_)), some (.im (toD twist_)), some (.im (toD count_)), none, none, none, none, some (.im (toD u_)), some (.im (toD other_)), some (.im (toD factor_)), some (.im (toD one_)), none] _ _)
            refine blk_seq (blk_set (i := 18) L5 trivial hs_ fun moved_ => ?_)
            show Blk _ _ _ _ _ [some (.im (toD script_)), some (.im (toD prime_)), some (.im (toD a_)), some (.im (toD b_)), some (.im (toD first_)), some (.im (toD second_)), some (.im (toD curve_)), some (.im (toD g_)), some (.im (toD twist_)), some (.im (toD count_)), none, none, none, none, some (.im (toD u_)), some (.im (toD other_)), some (.im (toD factor_)), some (.im (toD one_)), some (.im (toD moved_))] _
            try refine Blk.nx ?_
            have ht_ := ((et_or (et_not (et_B (ev_meth (c := "Curve") (m := "has") (ks := ["prime", "a", "b"]) (f := (fun (p : O_Curve × D × Unit) => m_Curve_has p.1 p.2.1)) (ev_var (i := 15) (x := other_) rfl) (ea_cons (ev_as (ev_var (i := 18) (x := moved_) rfl) toD (fun _ => rfl) rfl) ea_nil) (by decide +kernel) (fun _ => ⟨_, rfl⟩)))) (et_test (ev_op opx_neD mild_need (ev_meth (c := "Curve") (m := "multiply") (ks := ["prime", "a", "b"]) (f := (fun (p : O_Curve × Int × (Option (T2 Int Int)) × Unit) => m_Curve_multiply p.1 p.2.1 p.2.2.1)) (ev_var (i := 15) (x := other_) rfl) (ea_cons (ev_var (i := 16) (x := factor_) rfl) (ea_cons (ev_var (i := 18) (x := moved_) rfl) ea_nil)) (by decide +kernel) (fun _ => ⟨_, rfl⟩)) (ev_call (f := (fun (p : Int × Int × (Option (T2 Int Int)) × Unit) => m_u_law_moved p.1 p.2.1 p.2.2.1)) (ea_cons (ev_var (i := 1) (x := prime_) rfl) (ea_cons (ev_var (i := 14) (x := u_) rfl) (ea_cons (ev_meth (c := "Curve") (m := "multiply") (ks := ["prime", "a", "b"]) (f := (fun (p : O_Curve × Int × (Option (T2 Int Int)) × Unit) => m_Curve_multiply p.1 p.2.1 p.2.2.1)) (ev_var (i := 6) (x := curve_) rfl) (ea_cons (ev_var (i := 16) (x := factor_) rfl) (ea_cons (ev_var (i := 17) (x := one_) rfl) ea_nil)) (by decide +kernel) (fun _ => ⟨_, rfl⟩)) ea_nil))))))) : EvT K (W0 E) [some (.im (toD script_)), some (.im (toD prime_)), some (.im (toD a_)), some (.im (toD b_)), some (.im (toD first_)), some (.im (toD second_)), some (.im (toD curve_)), some (.im (toD g_)), some (.im (toD twist_)), some (.im (toD count_)), none, none, none, none, some (.im (toD u_)), some (.im (toD other_)), some (.im (toD factor_)), some (.im (toD one_)), some (.im (toD moved_))] _ _)
            refine blk_seq (blk_if2 L5 trivial ht_ ?_ ?_)
            · have hr_ := ((ev_bl (b := false)) : EvX K (W0 E) [some (.im (toD script_)), some (.im (toD prime_)), some (.im (toD a_)), some (.im (toD b_)), some (.im (toD first_)), some (.im (toD second_)), some (.im (toD curve_)), some (.im (toD g_)), some (.im (toD twist_)), some (.im (toD count_)), none, none, none, none, some (.im (toD u_)), some (.im (toD other_)), some (.im (toD factor_)), some (.im (toD one_)), some (.im (toD moved_))] _ _)
              exact blk_ret L5 trivial hr_
            · refine blk_nil ?_
              try refine Blk.nx ?_
              have ht_ := ((et_test (ev_op opx_neD mild_need (ev_meth (c := "Curve") (m := "add") (ks := ["prime", "a", "b"]) (f := (fun (p : O_Curve × (Option (T2 Int Int)) × (Option (T2 Int Int)) × Unit) => m_Curve_add p.1 p.2.1 p.2.2.1)) (ev_var (i := 15) (x := other_) rfl) (ea_cons (ev_var (i := 18) (x := moved_) rfl) (ea_cons (ev_call (f := (fun (p : Int × Int × (Option (T2 Int Int)) × Unit) => m_u_law_moved p.1 p.2.1 p.2.2.1)) (ea_cons (ev_var (i := 1) (x := prime_) rfl) (ea_cons (ev_var (i := 14) (x := u_) rfl) (ea_cons (ev_as (ev_var (i := 5) (x := second_) rfl) some (fun _ => rfl) rfl) ea_nil)))) ea_nil)) (by decide +kernel) (fun _ => ⟨_, rfl⟩)) (ev_call (f := (fun (p : Int × Int × (Option (T2 Int Int)) × Unit) => m_u_law_moved p.1 p.2.1 p.2.2.1)) (ea_cons (ev_var (i := 1) (x := prime_) rfl) (ea_cons (ev_var (i := 14) (x := u_) rfl) (ea_cons (ev_meth (c := "Curve") (m := "add") (ks := ["prime", "a", "b"]) (f := (fun (p : O_Curve × (Option (T2 Int Int)) × (Option (T2 Int Int)) × Unit) => m_Curve_add p.1 p.2.1 p.2.2.1)) (ev_var (i := 6) (x := curve_) rfl) (ea_cons (ev_var (i := 17) (x := one_) rfl) (ea_cons (ev_as (ev_var (i := 5) (x := second_) rfl) some (fun _ => rfl) rfl) ea_nil)) (by decide +kernel) (fun _ => ⟨_, rfl⟩)) ea_nil)))))) : EvT K (W0 E) [some (.im (toD script_)), some (.im (toD prime_)), some (.im (toD a_)), some (.im (toD b_)), some (.im (toD first_)), some (.im (toD second_)), some (.im (toD curve_)), some (.im (toD g_)), some (.im (toD twist_)), some (.im (toD count_)), none, none, none, none, some (.im (toD u_)), some (.im (toD other_)), some (.im (toD factor_)), some (.im (toD one_)), some (.im (toD moved_))] _ _)
              refine blk_if2 L5 trivial ht_ ?_ ?_
              · have hr_ := ((ev_bl (b := false)) : EvX K (W0 E) [some (.im (toD script_)), some (.im (toD prime_)), some (.im (toD a_)), some (.im (toD b_)), some (.im (toD first_)), some (.im (toD second_)), some (.im (toD curve_)), some (.im (toD g_)), some (.im (toD twist_)), some (.im (toD count_)), none, none, none, none, some (.im (toD u_)), some (.im (toD other_)), some (.im (toD factor_)), some (.im (toD one_)), some (.im (toD moved_))] _ _)
                exact blk_ret L5 trivial hr_
              · refine blk_nil ?_
                try refine Blk.nx ?_
                exact (hN5 ()).weak (.same (.same (.same (.same (.same (.same (.same (.same (.same (.same (.same (.same (.same (.same (.same (.same (.same (.drop (.drop .nil)))))))))))))))))))
          · intro _
            show Blk _ _ _ _ _ [some (.im (toD script_)), some (.im (toD prime_)), some (.im (toD a_)), some (.im (toD b_)), some (.im (toD first_)), some (.im (toD second_)), some (.im (toD curve_)), some (.im (toD g_)), some (.im (toD twist_)), some (.im (toD count_)), none, none, none, none, some (.im (toD u_)), some (.im (toD other_)), some (.im (toD factor_)), none, none] ((m_law_k7) ())
            unfold m_law_k7
            try refine Blk.nx ?_
            have hr_ := ((ev_bl (b := true)) : EvX K (W0 E) [some (.im (toD script_)), some (.im (toD prime_)), some (.im (toD a_)), some (.im (toD b_)), some (.im (toD first_)), some (.im (toD second_)), some (.im (toD curve_)), some (.im (toD g_)), some (.im (toD twist_)), some (.im (toD count_)), none, none, none, none, some (.im (toD u_)), some (.im (toD other_)), some (.im (toD factor_)), none, none] _ _)
            exact blk_ret L trivial hr_
/-! ### the head -/
def dfs : List He.DefD := [⟨("count_points", none), "count_points", "count_points", defArgs s_count_points, defBody s_count_points, defScope s_count_points, [], []⟩, ⟨("multiply_by_bits", none), "multiply_by_bits", "multiply_by_bits", defArgs s_multiply_by_bits, defBody s_multiply_by_bits, defScope s_multiply_by_bits, [], []⟩, ⟨("is_whole", none), "is_whole", "is_whole", defArgs s_is_whole, defBody s_is_whole, defScope s_is_whole, [], []⟩, ⟨("is_residue", none), "is_residue", "is_residue", defArgs s_is_residue, defBody s_is_residue, defScope s_is_residue, [], []⟩, ⟨("is_residue_pair", none), "is_residue_pair", "is_residue_pair", defArgs s_is_residue_pair, defBody s_is_residue_pair, defScope s_is_residue_pair, [], []⟩, ⟨("bezout", none), "bezout", "bezout", defArgs s_bezout, defBody s_bezout, defScope s_bezout, [], []⟩, ⟨("inverse", none), "inverse", "inverse", defArgs s_inverse, defBody s_inverse, defScope s_inverse, [], []⟩, ⟨("power", none), "power", "power", defArgs s_power, defBody s_power, defScope s_power, [], []⟩, ⟨("square_class", none), "square_class", "square_class", defArgs s_square_class, defBody s_square_class, defScope s_square_class, [], []⟩, ⟨("split_twos", none), "split_twos", "split_twos", defArgs s_split_twos, defBody s_split_twos, defScope s_split_twos, [], []⟩, ⟨("square_root", none), "square_root", "square_root", defArgs s_square_root, defBody s_square_root, defScope s_square_root, [], []⟩, ⟨("_root_of_square", none), "_root_of_square", "_root_of_square", defArgs s_u_root_of_square, defBody s_u_root_of_square, defScope s_u_root_of_square, [], []⟩, ⟨("_non_square", none), "_non_square", "_non_square", defArgs s_u_non_square, defBody s_u_non_square, defScope s_u_non_square, [], []⟩, ⟨("root_with_parity", none), "root_with_parity", "root_with_parity", defArgs s_root_with_parity, defBody s_root_with_parity, defScope s_root_with_parity, [], []⟩, ⟨("Curve", some "__init__"), "__init__", "Curve.__init__", defArgs s_Curve_init, defBody s_Curve_init, defScope s_Curve_init, [], []⟩, ⟨("Curve", some "has"), "has", "Curve.has", defArgs s_Curve_has, defBody s_Curve_has, defScope s_Curve_has, [], []⟩, ⟨("Curve", some "_right_side"), "_right_side", "Curve._right_side", defArgs s_Curve_u_right_side, defBody s_Curve_u_right_side, defScope s_Curve_u_right_side, [], []⟩, ⟨("Curve", some "negate"), "negate", "Curve.negate", defArgs s_Curve_negate, defBody s_Curve_negate, defScope s_Curve_negate, [], []⟩, ⟨("Curve", some "add"), "add", "Curve.add", defArgs s_Curve_add, defBody s_Curve_add, defScope s_Curve_add, [], []⟩, ⟨("Curve", some "_slope"), "_slope", "Curve._slope", defArgs s_Curve_u_slope, defBody s_Curve_u_slope, defScope s_Curve_u_slope, [], []⟩, ⟨("Curve", some "multiply"), "multiply", "Curve.multiply", defArgs s_Curve_multiply, defBody s_Curve_multiply, defScope s_Curve_multiply, [], []⟩, ⟨("Curve", some "lift"), "lift", "Curve.lift", defArgs s_Curve_lift, defBody s_Curve_lift, defScope s_Curve_lift, [], []⟩, ⟨("_law_cell", none), "_law_cell", "_law_cell", defArgs s_u_law_cell, defBody s_u_law_cell, defScope s_u_law_cell, [], []⟩, ⟨("_law_power", none), "_law_power", "_law_power", defArgs s_u_law_power, defBody s_u_law_power, defScope s_u_law_power, [], []⟩, ⟨("_law_inverse", none), "_law_inverse", "_law_inverse", defArgs s_u_law_inverse, defBody s_u_law_inverse, defScope s_u_law_inverse, [], []⟩, ⟨("_law_residue", none), "_law_residue", "_law_residue", defArgs s_u_law_residue, defBody s_u_law_residue, defScope s_u_law_residue, [], []⟩, ⟨("_law_curve_and_points", none), "_law_curve_and_points", "_law_curve_and_points", defArgs s_u_law_curve_and_points, defBody s_u_law_curve_and_points, defScope s_u_law_curve_and_points, [], []⟩, ⟨("_law_add", none), "_law_add", "_law_add", defArgs s_u_law_add, defBody s_u_law_add, defScope s_u_law_add, [], []⟩, ⟨("_law_singular", none), "_law_singular", "_law_singular", defArgs s_u_law_singular, defBody s_u_law_singular, defScope s_u_law_singular, [], []⟩, ⟨("_law_prime", none), "_law_prime", "_law_prime", defArgs s_u_law_prime, defBody s_u_law_prime, defScope s_u_law_prime, [], []⟩, ⟨("_law_lowest", none), "_law_lowest", "_law_lowest", defArgs s_u_law_lowest, defBody s_u_law_lowest, defScope s_u_law_lowest, [], []⟩, ⟨("_law_moved", none), "_law_moved", "_law_moved", defArgs s_u_law_moved, defBody s_u_law_moved, defScope s_u_law_moved, [], []⟩, ⟨("law", none), "law", "law", defArgs s_law, defBody s_law, defScope s_law, [], []⟩]
def fas : List He.Fa := [.glo "count_points", .glo "multiply_by_bits", .glo "is_whole", .glo "is_residue", .glo "is_residue_pair", .glo "bezout", .glo "inverse", .glo "power", .glo "square_class", .glo "split_twos", .glo "square_root", .glo "_root_of_square", .glo "_non_square", .glo "root_with_parity", .glo "_law_cell", .glo "_law_power", .glo "_law_inverse", .glo "_law_residue", .glo "_law_curve_and_points", .glo "_law_add", .glo "_law_singular", .glo "_law_prime", .glo "_law_lowest", .glo "_law_moved", .glo "law", .glo "Curve", .cls "Curve", .noat "Curve" "a", .noat "Curve" "b", .noat "Curve" "prime", .meth "Curve" "_right_side", .meth "Curve" "_slope", .meth "Curve" "add", .meth "Curve" "has", .meth "Curve" "lift", .meth "Curve" "multiply", .meth "Curve" "negate", .mkr "Curve", .glo "CurveError", .glo "OutOfRange", .glo "NoInverse", .glo "Refused", .exc "NoInverse", .exc "OutOfRange", .exc "Refused", .free "abs", .free "all", .free "bool", .free "int", .free "isinstance", .free "len", .free "min", .free "range", .free "sum", .free "tuple", .int "COUNT_LIMIT" 65536, .exm "CurveError" "CurveError" true, .exm "CurveError" "OutOfRange" false, .exm "CurveError" "NoInverse" false, .exm "CurveError" "Refused" false, .exm "OutOfRange" "CurveError" true, .exm "OutOfRange" "OutOfRange" true, .exm "OutOfRange" "NoInverse" false, .exm "OutOfRange" "Refused" false, .exm "NoInverse" "CurveError" true, .exm "NoInverse" "OutOfRange" false, .exm "NoInverse" "NoInverse" true, .exm "NoInverse" "Refused" false, .exm "Refused" "CurveError" true, .exm "Refused" "OutOfRange" false, .exm "Refused" "NoInverse" false, .exm "Refused" "Refused" true]
def cons_ : List (Str × D) := []
def exB (K : PySem.W.Frag) : Bool := clsB K errs subE && conB K cons_
abbrev Rw : PySem.W.OpenRow := PySem.W.OpenLaw.row PySem.Challenge.rw_curveseal_k75_whole_curves_and_their_twi
abbrev hk : PySem.W.Hook := He.hookX 5 fas dfs [] [] exB
def ob (s : PySem.W.SharedT) : He.AlX := He.obsX 5 fas dfs [] [] exB (HandSHeadRun.getT s)
theorem ob_eq (s : PySem.W.SharedT) : ob s = hk.obs s.abs := He.obsX_eq (HandSHeadRun.getT_eq s)
theorem run_ (w : World) : HandSHeadRun.RunEq Rw (PySem.W.view Rw.prog [40]) hk ob 20000 ((["count_points", "multiply_by_bits", "is_whole", "is_residue", "is_residue_pair", "bezout", "inverse", "power", "square_class", "split_twos", "square_root", "_root_of_square", "_non_square", "root_with_parity", "_law_cell", "_law_is_integer", "_law_power", "_law_inverse", "_law_residue", "_law_curve_and_points", "_law_add", "_law_on", "_law_singular", "_law_prime", "_law_lowest"] : List Str) ++ (["_law_moved", "_wall", "CurveError", "OutOfRange", "NoInverse", "Refused", "Curve", "COUNT_LIMIT"] : List Str)) w := by
  intro os
  kernel_rfl
theorem facts_of {K : PySem.W.Frag} {h : Heap} {w : World} {mg : Str → Option Value} (X : K.In h) (G : h.Ns mainGlobals mg) (c : He.SaysX fas dfs [] [] exB w h K) : Facts K mg := by
  have cd : He.SaysD fas dfs K := c.t.d
  exact {
    d_count_points := cd.def_ 0 (d := ⟨("count_points", none), "count_points", "count_points", defArgs s_count_points, defBody s_count_points, defScope s_count_points, [], []⟩) rfl
    g_count_points := He.glo_ok X G (cd.fact 0 rfl)
    d_multiply_by_bits := cd.def_ 1 (d := ⟨("multiply_by_bits", none), "multiply_by_bits", "multiply_by_bits", defArgs s_multiply_by_bits, defBody s_multiply_by_bits, defScope s_multiply_by_bits, [], []⟩) rfl
    g_multiply_by_bits := He.glo_ok X G (cd.fact 1 rfl)
    d_is_whole := cd.def_ 2 (d := ⟨("is_whole", none), "is_whole", "is_whole", defArgs s_is_whole, defBody s_is_whole, defScope s_is_whole, [], []⟩) rfl
    g_is_whole := He.glo_ok X G (cd.fact 2 rfl)
    d_is_residue := cd.def_ 3 (d := ⟨("is_residue", none), "is_residue", "is_residue", defArgs s_is_residue, defBody s_is_residue, defScope s_is_residue, [], []⟩) rfl
    g_is_residue := He.glo_ok X G (cd.fact 3 rfl)
    d_is_residue_pair := cd.def_ 4 (d := ⟨("is_residue_pair", none), "is_residue_pair", "is_residue_pair", defArgs s_is_residue_pair, defBody s_is_residue_pair, defScope s_is_residue_pair, [], []⟩) rfl
    g_is_residue_pair := He.glo_ok X G (cd.fact 4 rfl)
    d_bezout := cd.def_ 5 (d := ⟨("bezout", none), "bezout", "bezout", defArgs s_bezout, defBody s_bezout, defScope s_bezout, [], []⟩) rfl
    g_bezout := He.glo_ok X G (cd.fact 5 rfl)
    d_inverse := cd.def_ 6 (d := ⟨("inverse", none), "inverse", "inverse", defArgs s_inverse, defBody s_inverse, defScope s_inverse, [], []⟩) rfl
    g_inverse := He.glo_ok X G (cd.fact 6 rfl)
    d_power := cd.def_ 7 (d := ⟨("power", none), "power", "power", defArgs s_power, defBody s_power, defScope s_power, [], []⟩) rfl
    g_power := He.glo_ok X G (cd.fact 7 rfl)
    d_square_class := cd.def_ 8 (d := ⟨("square_class", none), "square_class", "square_class", defArgs s_square_class, defBody s_square_class, defScope s_square_class, [], []⟩) rfl
    g_square_class := He.glo_ok X G (cd.fact 8 rfl)
    d_split_twos := cd.def_ 9 (d := ⟨("split_twos", none), "split_twos", "split_twos", defArgs s_split_twos, defBody s_split_twos, defScope s_split_twos, [], []⟩) rfl
    g_split_twos := He.glo_ok X G (cd.fact 9 rfl)
    d_square_root := cd.def_ 10 (d := ⟨("square_root", none), "square_root", "square_root", defArgs s_square_root, defBody s_square_root, defScope s_square_root, [], []⟩) rfl
    g_square_root := He.glo_ok X G (cd.fact 10 rfl)
    d_u_root_of_square := cd.def_ 11 (d := ⟨("_root_of_square", none), "_root_of_square", "_root_of_square", defArgs s_u_root_of_square, defBody s_u_root_of_square, defScope s_u_root_of_square, [], []⟩) rfl
    g_u_root_of_square := He.glo_ok X G (cd.fact 11 rfl)
    d_u_non_square := cd.def_ 12 (d := ⟨("_non_square", none), "_non_square", "_non_square", defArgs s_u_non_square, defBody s_u_non_square, defScope s_u_non_square, [], []⟩) rfl
    g_u_non_square := He.glo_ok X G (cd.fact 12 rfl)
    d_root_with_parity := cd.def_ 13 (d := ⟨("root_with_parity", none), "root_with_parity", "root_with_parity", defArgs s_root_with_parity, defBody s_root_with_parity, defScope s_root_with_parity, [], []⟩) rfl
    g_root_with_parity := He.glo_ok X G (cd.fact 13 rfl)
    d_Curve_init := cd.def_ 14 (d := ⟨("Curve", some "__init__"), "__init__", "Curve.__init__", defArgs s_Curve_init, defBody s_Curve_init, defScope s_Curve_init, [], []⟩) rfl
    d_Curve_has := cd.def_ 15 (d := ⟨("Curve", some "has"), "has", "Curve.has", defArgs s_Curve_has, defBody s_Curve_has, defScope s_Curve_has, [], []⟩) rfl
    d_Curve_u_right_side := cd.def_ 16 (d := ⟨("Curve", some "_right_side"), "_right_side", "Curve._right_side", defArgs s_Curve_u_right_side, defBody s_Curve_u_right_side, defScope s_Curve_u_right_side, [], []⟩) rfl
    d_Curve_negate := cd.def_ 17 (d := ⟨("Curve", some "negate"), "negate", "Curve.negate", defArgs s_Curve_negate, defBody s_Curve_negate, defScope s_Curve_negate, [], []⟩) rfl
    d_Curve_add := cd.def_ 18 (d := ⟨("Curve", some "add"), "add", "Curve.add", defArgs s_Curve_add, defBody s_Curve_add, defScope s_Curve_add, [], []⟩) rfl
    d_Curve_u_slope := cd.def_ 19 (d := ⟨("Curve", some "_slope"), "_slope", "Curve._slope", defArgs s_Curve_u_slope, defBody s_Curve_u_slope, defScope s_Curve_u_slope, [], []⟩) rfl
    d_Curve_multiply := cd.def_ 20 (d := ⟨("Curve", some "multiply"), "multiply", "Curve.multiply", defArgs s_Curve_multiply, defBody s_Curve_multiply, defScope s_Curve_multiply, [], []⟩) rfl
    d_Curve_lift := cd.def_ 21 (d := ⟨("Curve", some "lift"), "lift", "Curve.lift", defArgs s_Curve_lift, defBody s_Curve_lift, defScope s_Curve_lift, [], []⟩) rfl
    d_u_law_cell := cd.def_ 22 (d := ⟨("_law_cell", none), "_law_cell", "_law_cell", defArgs s_u_law_cell, defBody s_u_law_cell, defScope s_u_law_cell, [], []⟩) rfl
    g_u_law_cell := He.glo_ok X G (cd.fact 14 rfl)
    d_u_law_power := cd.def_ 23 (d := ⟨("_law_power", none), "_law_power", "_law_power", defArgs s_u_law_power, defBody s_u_law_power, defScope s_u_law_power, [], []⟩) rfl
    g_u_law_power := He.glo_ok X G (cd.fact 15 rfl)
    d_u_law_inverse := cd.def_ 24 (d := ⟨("_law_inverse", none), "_law_inverse", "_law_inverse", defArgs s_u_law_inverse, defBody s_u_law_inverse, defScope s_u_law_inverse, [], []⟩) rfl
    g_u_law_inverse := He.glo_ok X G (cd.fact 16 rfl)
    d_u_law_residue := cd.def_ 25 (d := ⟨("_law_residue", none), "_law_residue", "_law_residue", defArgs s_u_law_residue, defBody s_u_law_residue, defScope s_u_law_residue, [], []⟩) rfl
    g_u_law_residue := He.glo_ok X G (cd.fact 17 rfl)
    d_u_law_curve_and_points := cd.def_ 26 (d := ⟨("_law_curve_and_points", none), "_law_curve_and_points", "_law_curve_and_points", defArgs s_u_law_curve_and_points, defBody s_u_law_curve_and_points, defScope s_u_law_curve_and_points, [], []⟩) rfl
    g_u_law_curve_and_points := He.glo_ok X G (cd.fact 18 rfl)
    d_u_law_add := cd.def_ 27 (d := ⟨("_law_add", none), "_law_add", "_law_add", defArgs s_u_law_add, defBody s_u_law_add, defScope s_u_law_add, [], []⟩) rfl
    g_u_law_add := He.glo_ok X G (cd.fact 19 rfl)
    d_u_law_singular := cd.def_ 28 (d := ⟨("_law_singular", none), "_law_singular", "_law_singular", defArgs s_u_law_singular, defBody s_u_law_singular, defScope s_u_law_singular, [], []⟩) rfl
    g_u_law_singular := He.glo_ok X G (cd.fact 20 rfl)
    d_u_law_prime := cd.def_ 29 (d := ⟨("_law_prime", none), "_law_prime", "_law_prime", defArgs s_u_law_prime, defBody s_u_law_prime, defScope s_u_law_prime, [], []⟩) rfl
    g_u_law_prime := He.glo_ok X G (cd.fact 21 rfl)
    d_u_law_lowest := cd.def_ 30 (d := ⟨("_law_lowest", none), "_law_lowest", "_law_lowest", defArgs s_u_law_lowest, defBody s_u_law_lowest, defScope s_u_law_lowest, [], []⟩) rfl
    g_u_law_lowest := He.glo_ok X G (cd.fact 22 rfl)
    d_u_law_moved := cd.def_ 31 (d := ⟨("_law_moved", none), "_law_moved", "_law_moved", defArgs s_u_law_moved, defBody s_u_law_moved, defScope s_u_law_moved, [], []⟩) rfl
    g_u_law_moved := He.glo_ok X G (cd.fact 23 rfl)
    d_law := cd.def_ 32 (d := ⟨("law", none), "law", "law", defArgs s_law, defBody s_law, defScope s_law, [], []⟩) rfl
    g_law := He.glo_ok X G (cd.fact 24 rfl)
    g_Curve := He.glo_ok X G (cd.fact 25 rfl)
    cl_Curve := He.cls_ok (x := "Curve") (cd.fact 26 rfl)
    nf_Curve_a := He.noat_ok (x := "Curve") (f := "a") (cd.fact 27 rfl)
    nf_Curve_b := He.noat_ok (x := "Curve") (f := "b") (cd.fact 28 rfl)
    nf_Curve_prime := He.noat_ok (x := "Curve") (f := "prime") (cd.fact 29 rfl)
    mt_Curve_u_right_side := He.meth_ok (x := "Curve") (m := "_right_side") (cd.fact 30 rfl)
    mt_Curve_u_slope := He.meth_ok (x := "Curve") (m := "_slope") (cd.fact 31 rfl)
    mt_Curve_add := He.meth_ok (x := "Curve") (m := "add") (cd.fact 32 rfl)
    mt_Curve_has := He.meth_ok (x := "Curve") (m := "has") (cd.fact 33 rfl)
    mt_Curve_lift := He.meth_ok (x := "Curve") (m := "lift") (cd.fact 34 rfl)
    mt_Curve_multiply := He.meth_ok (x := "Curve") (m := "multiply") (cd.fact 35 rfl)
    mt_Curve_negate := He.meth_ok (x := "Curve") (m := "negate") (cd.fact 36 rfl)
    mk_Curve := He.mkr_ok (x := "Curve") (cd.fact 37 rfl)
    g_CurveError := He.glo_ok X G (cd.fact 38 rfl)
    g_OutOfRange := He.glo_ok X G (cd.fact 39 rfl)
    g_NoInverse := He.glo_ok X G (cd.fact 40 rfl)
    g_Refused := He.glo_ok X G (cd.fact 41 rfl)
    x_NoInverse := (He.exc_ok (x := "NoInverse") (cd.fact 42 rfl)).1
    k_NoInverse := (He.exc_ok (x := "NoInverse") (cd.fact 42 rfl)).2.1
    b_NoInverse := (He.exc_ok (x := "NoInverse") (cd.fact 42 rfl)).2.2.1
    t_NoInverse := (He.exc_ok (x := "NoInverse") (cd.fact 42 rfl)).2.2.2
    x_OutOfRange := (He.exc_ok (x := "OutOfRange") (cd.fact 43 rfl)).1
    k_OutOfRange := (He.exc_ok (x := "OutOfRange") (cd.fact 43 rfl)).2.1
    b_OutOfRange := (He.exc_ok (x := "OutOfRange") (cd.fact 43 rfl)).2.2.1
    t_OutOfRange := (He.exc_ok (x := "OutOfRange") (cd.fact 43 rfl)).2.2.2
    x_Refused := (He.exc_ok (x := "Refused") (cd.fact 44 rfl)).1
    k_Refused := (He.exc_ok (x := "Refused") (cd.fact 44 rfl)).2.1
    b_Refused := (He.exc_ok (x := "Refused") (cd.fact 44 rfl)).2.2.1
    t_Refused := (He.exc_ok (x := "Refused") (cd.fact 44 rfl)).2.2.2
    n_abs := He.free_ok X G (cd.fact 45 rfl)
    n_all := He.free_ok X G (cd.fact 46 rfl)
    n_bool := He.free_ok X G (cd.fact 47 rfl)
    n_int := He.free_ok X G (cd.fact 48 rfl)
    n_isinstance := He.free_ok X G (cd.fact 49 rfl)
    n_len := He.free_ok X G (cd.fact 50 rfl)
    n_min := He.free_ok X G (cd.fact 51 rfl)
    n_range := He.free_ok X G (cd.fact 52 rfl)
    n_sum := He.free_ok X G (cd.fact 53 rfl)
    n_tuple := He.free_ok X G (cd.fact 54 rfl)
    c_COUNT_LIMIT := He.int_ok X G (cd.fact 55 rfl)
    cls := cls_of (He.ba c.more).1 }
end Mi
namespace Mi
open PySem PySem.Spec L2
/-! ### the law's own helpers -/
theorem cell_ok (ns : Ro Int) (k : Nat) : m_u_law_cell ns (k : Int) = .ok (ns.xs.getD k 0) := by
  unfold m_u_law_cell
  simp only [Res.bind_ok, cond_dec]
  by_cases h : (k : Int) < (ns.xs.length : Int)
  · rw [if_pos h]
    have h' : k < ns.xs.length := by omega
    rw [idx_nat (List.getElem?_eq_getElem h')]
    simp [Res.bind_ok, h']
  · rw [if_neg h]
    have h' : ¬ k < ns.xs.length := by omega
    simp [h']
theorem cell_bits {ns : Ro Int} {B : Nat} (hb : ∀ i ∈ ns.xs, Builtin.Int.intBits i ≤ B) (k : Nat) : (ns.xs.getD k 0).natAbs < 2 ^ B := by
  rw [List.getD_eq_getElem?_getD]
  by_cases h : k < ns.xs.length
  · rw [List.getElem?_eq_getElem h]
    exact ibits_le (hb _ (List.getElem_mem h))
  · rw [List.getElem?_eq_none (by omega)]
    exact Nat.two_pow_pos _
theorem cell_ex (ns : Ro Int) {k : Int} (hk : 0 ≤ k) : ∃ c, m_u_law_cell ns k = .ok c := by
  obtain ⟨j, rfl⟩ := Int.eq_ofNat_of_zero_le hk
  exact ⟨_, cell_ok ns j⟩


theorem ipow2 (x : Int) : x ^ 2 = x * x := by rw [Int.pow_succ, Int.pow_succ, Int.pow_zero, Int.one_mul]
theorem pyDown_nil {i j : Int} (h : i ≤ j) : pyDown i j = [] := by
  unfold pyDown; rw [show (i - j).toNat = 0 by omega]; rfl
theorem pyDown_cons {i j : Int} (h : j < i) : pyDown i j = i :: pyDown (i - 1) j := by
  unfold pyDown
  rw [show (i - j).toNat = (i - 1 - j).toNat + 1 by omega, List.range_succ_eq_map, List.map_cons, List.map_map]
  congr 1
  · omega
  · refine List.map_congr_left fun a _ => ?_
    show i - ((a + 1 : Nat) : Int) = i - 1 - (a : Int)
    omega
structure Pr (p : Nat) : Prop where
  pr : IsP p
  odd : p % 2 = 1
  lt : p < 2 ^ 256
theorem Pr.ge {p : Nat} (h : Pr p) : 3 ≤ p := by have := h.pr.1; have := h.odd; omega
theorem Pr.pos {p : Nat} (h : Pr p) : (0 : Int) < (p : Int) := by have := h.ge; omega
theorem res_lt {p : Nat} (h : Pr p) {x : Int} (h0 : 0 ≤ x) (h1 : x < p) : x.natAbs < 2 ^ 256 := by have := h.lt; omega
theorem mul_res {p : Nat} (h : Pr p) {x y : Int} (h0 : 0 ≤ x) (h1 : x < p) (h2 : 0 ≤ y) (h3 : y < p) : CMulX x y := cmulx (res_lt h h0 h1) (res_lt h h2 h3) (by decide)

/-! ### powers -/
theorem pw_step {p : Nat} (h : Pr p) (k : Int × Int × Int → Res Int) (n : Nat) (r s : Int) (e : Nat) (r0 : 0 ≤ r) (r1 : r < p) (s0 : 0 ≤ s) (s1 : s < p) : m_power_w1 (p : Int) k (n + 1) (r, s, (e : Int)) = if e = 0 then k (r, s, 0) else m_power_w1 (p : Int) k n (if e % 2 = 1 then r * s % p else r, s * s % p, ((e / 2 : Nat) : Int)) := by
  have hp := h.pos
  have e2 : ((e / 2 : Nat) : Int) = (e : Int) / 2 ^ (1 : Int).toNat := by show _ = (e : Int) / 2; omega
  rw [m_power_w1]
  simp only [Res.bind_ok, cond_dec, bit1]
  by_cases he : e = 0
  · subst he; rfl
  · rw [if_pos (by omega), if_neg he]
    unfold m_power_k2
    simp only [Res.bind_ok, need_bind, Res.need_pos hp, Res.need_pos (mul_res h s0 s1 s0 s1), Res.need_pos (mul_res h r0 r1 s0 s1), e2]
    by_cases ho : e % 2 = 1
    · rw [if_pos (by omega), if_pos ho]
    · rw [if_neg (by omega), if_neg ho]
theorem pw_loop {p : Nat} (h : Pr p) (k : Int × Int × Int → Res Int) : ∀ (fuel : Nat) (r s : Int) (e : Nat), 0 ≤ r → r < p → 0 ≤ s → s < p → e < fuel → ∃ s', m_power_w1 (p : Int) k fuel (r, s, (e : Int)) = k (r * s ^ e % p, s', 0) := by
  have hp := h.pos
  intro fuel
  induction fuel with
  | zero => intro r s e _ _ _ _ he; omega
  | succ n ih =>
    intro r s e r0 r1 s0 s1 he
    rw [pw_step h k n r s e r0 r1 s0 s1]
    by_cases hz : e = 0
    · subst hz
      exact ⟨s, by rw [if_pos rfl, Int.pow_zero, Int.mul_one, Int.emod_eq_of_lt r0 r1]⟩
    · rw [if_neg hz]
      have t0 := Int.emod_nonneg (s * s) (show (p : Int) ≠ 0 by omega)
      have t1 := Int.emod_lt_of_pos (s * s) hp
      have u0 := Int.emod_nonneg (r * s) (show (p : Int) ≠ 0 by omega)
      have u1 := Int.emod_lt_of_pos (r * s) hp
      obtain ⟨s', q⟩ := ih (if e % 2 = 1 then r * s % p else r) (s * s % p) (e / 2) (by split <;> assumption) (by split <;> assumption) t0 t1 (by omega)
      refine ⟨s', ?_⟩
      rw [q]
      have a1 : (s * s % p) ^ (e / 2) % p = (s * s) ^ (e / 2) % p := em_pow (em_em _ _) _
      have a2 : s ^ e = s ^ (e % 2) * (s * s) ^ (e / 2) := by
        rw [← ipow2 s, ← Int.pow_mul, ← Int.pow_add, Nat.mod_add_div]
      congr 2
      rw [a2, ← Int.mul_assoc]
      refine em_mul ?_ a1
      rcases (by omega : e % 2 = 0 ∨ e % 2 = 1) with z | z
      · rw [z, if_neg (by decide), Int.pow_zero, Int.mul_one]
      · rw [z, if_pos rfl, Int.pow_one, em_em]
theorem power_ok {p : Nat} (h : Pr p) (a : Int) (e : Nat) : m_power a (e : Int) (p : Int) = .ok (a ^ e % p) := by
  have hp := h.pos
  have h3 := h.ge
  unfold m_power
  simp only [Res.bind_ok, Res.need_pos hp]
  obtain ⟨s', q⟩ := pw_loop h m_power_k3 ((e : Int).toNat + 1) (1 % p) (a % p) e (Int.emod_nonneg _ (by omega)) (Int.emod_lt_of_pos _ hp) (Int.emod_nonneg _ (by omega)) (Int.emod_lt_of_pos _ hp) (by omega)
  rw [q]
  show Res.ok _ = _
  congr 1
  rw [em_mul (em_em 1 p) (em_pow (em_em a p) e), Int.one_mul]
abbrev hf (p : Nat) : Nat := (p - 1) / 2
theorem class_ok {p : Nat} (h : Pr p) (a : Int) : m_square_class a (p : Int) = .ok (if a % p = 0 then 0 else if a ^ hf p % p = 1 then 1 else -1) := by
  have hp := h.pos
  have h3 := h.ge
  have e : ((p : Int) - 1) / 2 = ((hf p : Nat) : Int) := by unfold hf; omega
  unfold m_square_class
  simp only [Res.bind_ok, Res.need_pos hp, e, power_ok h, cond_dec]
  by_cases h0 : a % p = 0
  · rw [if_pos h0, if_pos h0]
  · rw [if_neg h0, if_neg h0]
    by_cases h1 : a ^ hf p % p = 1
    · rw [if_pos h1, if_pos h1]
    · rw [if_neg h1, if_neg h1]
theorem bits_pow (t : Nat) : Builtin.Int.intBits (2 ^ t : Int) = t + 1 := by
  have hp : (0 : Int) < 2 ^ t := Int.pow_pos (by decide)
  unfold Builtin.Int.intBits
  rw [if_neg (by simp; omega)]
  have : (2 ^ t : Int).natAbs = 2 ^ t := by rw [Int.natAbs_pow]; rfl
  rw [this, Nat.log2_two_pow]
theorem split_ok {n o t : Nat} (e : n = (2 * o + 1) * 2 ^ t) : m_split_twos (n : Int) = .ok (T2.mk ((2 * o + 1 : Nat) : Int) (t : Int)) := by
  have hp := Nat.two_pow_pos t
  have hn : 0 < n := by rw [e]; exact Nat.mul_pos (by omega) hp
  have ea : Builtin.bitAnd (n : Int) (-(n : Int)) = 2 ^ t := by
    have e1 : -(n : Int) = Builtin.bitNot ((n : Int) - 1) := by unfold Builtin.bitNot; omega
    rw [e1, PyProof.Rows.bitAnd_not, PyProof.Rows.bitAnd_pp (by omega) (by omega), show ((n : Int)).toNat = n by omega, show ((n : Int) - 1).toNat = n - 1 by omega, e, low_and, ← PySem.W.kbt_cast t, Int.natCast_mul, Int.natCast_mul]
    generalize ((2 ^ t : Nat) : Int) = q
    push_cast
    grind
  have ed : (n : Int) / 2 ^ t = ((2 * o + 1 : Nat) : Int) := by
    rw [e, ← PySem.W.kbt_cast t, ← Int.natCast_ediv, Nat.mul_div_cancel _ hp]
  unfold m_split_twos
  simp only [Res.bind_ok, ea, bits_pow, need_bind]
  have et : (((t + 1 : Nat) : Int) - 1) = (t : Int) := by omega
  rw [et, Res.need_pos (by omega), show ((t : Int)).toNat = t by omega, ed]
/-! ### a number that is no square -/
theorem ns_loop {p : Nat} (h : Pr p) {z0 : Nat} (hz : z0 < p) (hz1 : (z0 : Int) ^ hf p % p ≠ 1) (k : Int → Res Int) : ∀ (fuel n : Nat), 1 ≤ n → n ≤ z0 → z0 < n + fuel → ∃ z : Int, m_u_non_square_w1 (p : Int) k fuel (n : Int) = k z ∧ z ^ hf p % p = p - 1 := by
  intro fuel
  induction fuel with
  | zero => intro n h1 h2 h3; omega
  | succ f ih =>
    intro n h1 h2 h3
    have hp := h.pos
    have hn0 : (n : Int) % p ≠ 0 := by rw [Int.emod_eq_of_lt (by omega) (by omega)]; omega
    rw [m_u_non_square_w1]
    simp only [Res.bind_ok, class_ok h, cond_not, cond_dec, if_neg hn0]
    by_cases hn : (n : Int) ^ hf p % p = 1
    · rw [if_pos hn, if_neg (by decide)]
      have hne : n ≠ z0 := fun e => hz1 (by rw [← e]; exact hn)
      exact ih (n + 1) (by omega) (by omega) (by omega)
    · rw [if_neg hn, if_pos rfl]
      refine ⟨_, rfl, ?_⟩
      exact (half_pow h.pr h.odd (fun d => hn0 (Int.emod_eq_zero_of_dvd d))).resolve_left hn
theorem ns_ok {p : Nat} (h : Pr p) : ∃ z : Int, m_u_non_square (p : Int) = .ok z ∧ z ^ hf p % p = p - 1 := by
  have h3 := h.ge
  have ho := h.odd
  obtain ⟨z0, z1, z2, z3⟩ := non_root h.pr (k := hf p) (by unfold hf; omega) (by unfold hf; omega)
  have hz : 2 ≤ z0 := by
    rcases (by omega : z0 = 1 ∨ 2 ≤ z0) with rfl | q
    · exact absurd (by rw [show ((1 : Nat) : Int) = 1 from rfl, Int.one_pow, Int.emod_eq_of_lt (by decide) (by omega)]) z3
    · exact q
  obtain ⟨z, q1, q2⟩ := ns_loop h z2 z3 m_u_non_square_k2 ((p : Int).toNat + 1) 2 (by decide) hz (by omega)
  refine ⟨z, ?_, q2⟩
  unfold m_u_non_square
  simp only [Res.bind_ok]
  exact q1
/-! ### the root -/
theorem pow_dbl (x : Int) (k : Nat) : x ^ 2 ^ (k + 1) = (x * x) ^ 2 ^ k := by
  rw [Nat.pow_succ, Nat.mul_comm, Int.pow_mul, ipow2]
theorem ts_loop {p : Nat} (h : Pr p) (a : Int) (k : Int × Int × Int → Res Int) : ∀ (L : Nat) (root rest helper : Int), L ≤ 300 → 0 ≤ root → root < p → 0 ≤ rest → rest < p → 0 ≤ helper → helper < p → root * root % p = a * rest % p → rest ^ 2 ^ L % p = 1 → helper ^ 2 ^ L % p = p - 1 →
    ∃ r rest' helper', m_u_root_of_square_l2 (p : Int) k (pyDown ((L : Int) - 1) (-1)) (root, rest, helper) = k (r, rest', helper') ∧ 0 ≤ r ∧ r < p ∧ r * r % p = a % p := by
  have hp := h.pos
  have h3 := h.ge
  intro L
  induction L with
  | zero =>
    intro root rest helper _ r0 r1 s0 s1 g0 g1 i1 i2 i3
    refine ⟨root, rest, helper, ?_, r0, r1, ?_⟩
    · rw [pyDown_nil (by omega)]; rfl
    · rw [Nat.pow_zero, Int.pow_one] at i2
      rw [i1]
      have o : (1 : Int) % p = 1 := Int.emod_eq_of_lt (by decide) (by omega)
      rw [em_mul (u := a) (v := 1) rfl (by rw [i2, o]), Int.mul_one]
  | succ L ih =>
    intro root rest helper hL r0 r1 s0 s1 g0 g1 i1 i2 i3
    have el : (((L + 1 : Nat) : Int) - 1) = (L : Int) := by omega
    rw [el, pyDown_cons (by omega), m_u_root_of_square_l2]
    have hs : CShl 1 (L : Int) := ⟨by omega, by
      have : Builtin.Int.intBits 1 = 1 := by decide +kernel
      rw [this]; omega⟩
    have e1 : (1 : Int) * 2 ^ (L : Int).toNat = ((2 ^ L : Nat) : Int) := by rw [Int.one_mul, show ((L : Int)).toNat = L by omega, PySem.W.kbt_cast]
    have G0 := fun x : Int => Int.emod_nonneg x (show (p : Int) ≠ 0 by omega)
    have G1 := fun x : Int => Int.emod_lt_of_pos x hp
    have j3 : (helper * helper % p) ^ 2 ^ L % p = p - 1 := by rw [em_pow (em_em _ _), ← pow_dbl]; exact i3
    have sq : rest ^ 2 ^ L * rest ^ 2 ^ L % p = 1 := by rw [← Int.pow_add, ← Nat.two_mul, Nat.mul_comm, ← Nat.pow_succ]; exact i2
    simp only [Res.bind_ok, need_bind, Res.need_pos hs, e1, power_ok h, cond_not, cond_dec]
    unfold m_u_root_of_square_k3
    by_cases hc : rest ^ 2 ^ L % p = 1
    · rw [if_pos hc]
      simp only [Res.bind_ok, need_bind, Res.need_pos (mul_res h g0 g1 g0 g1), Res.need_pos hp]
      exact ih root rest (helper * helper % p) (by omega) r0 r1 s0 s1 (G0 _) (G1 _) i1 hc j3
    · rw [if_neg hc]
      have hm := (sq_one h.pr sq).resolve_left hc
      have big : CMulX (rest * helper) helper := cmulx (a := 512) (b := 256) (by rw [Int.natAbs_mul]; exact pow_add_lt (res_lt h s0 s1) (res_lt h g0 g1)) (res_lt h g0 g1) (by decide)
      simp only [Res.bind_ok, need_bind, Res.need_pos (mul_res h g0 g1 g0 g1), Res.need_pos (mul_res h r0 r1 g0 g1), Res.need_pos (mul_res h s0 s1 g0 g1), Res.need_pos big, Res.need_pos hp]
      refine ih (root * helper % p) (rest * helper * helper % p) (helper * helper % p) (by omega) (G0 _) (G1 _) (G0 _) (G1 _) (G0 _) (G1 _) ?_ ?_ j3
      · have q1 : root * helper % p * (root * helper % p) % p = (root * root) * (helper * helper) % p := by
          rw [em_mul (em_em (root * helper) p) (em_em (root * helper) p)]; congr 1; grind
        have q2 : a * (rest * helper * helper % p) % p = (a * rest) * (helper * helper) % p := by
          rw [em_mul (u := a) (v := rest * helper * helper) rfl (em_em _ _)]; congr 1; grind
        rw [q1, q2]
        exact em_mul i1 rfl
      · rw [em_pow (em_em _ _), show rest * helper * helper = rest * (helper * helper) by grind, Int.mul_pow, ← pow_dbl, em_mul (hm.trans (i3.symm)) rfl]
        exact m1_sq h.pr i3
theorem root_ok {p : Nat} (h : Pr p) {a : Int} (ha : a ^ hf p % p = 1) : ∃ r, m_u_root_of_square a (p : Int) = .ok r ∧ 0 ≤ r ∧ r < p ∧ r * r % p = a % p := by
  have hp := h.pos
  have h3 := h.ge
  have ho := h.odd
  have hlt := h.lt
  obtain ⟨o, t, e⟩ := odd_part (p - 1) (by omega)
  have t0 : 1 ≤ t := by
    rcases Nat.eq_zero_or_pos t with z | z
    · subst z; rw [Nat.pow_zero] at e; omega
    · exact z
  have tl : t ≤ 256 := by
    refine Nat.le_of_not_lt fun z => ?_
    have : 2 ^ 256 ≤ 2 ^ t := Nat.pow_le_pow_right (by decide) (by omega)
    have := Nat.le_mul_of_pos_left (2 ^ t) (show 0 < 2 * o + 1 by omega)
    omega
  have eh : hf p = (2 * o + 1) * 2 ^ (t - 1) := by
    have : 2 ^ t = 2 ^ (t - 1) * 2 := by rw [← Nat.pow_succ]; congr 1; omega
    unfold hf
    rw [e, this, ← Nat.mul_assoc, Nat.mul_div_cancel _ (by decide)]
  have sp := split_ok e
  rw [show ((p - 1 : Nat) : Int) = (p : Int) - 1 by omega] at sp
  have o2 : (((2 * o + 1 : Nat) : Int) + 1) / 2 = ((o + 1 : Nat) : Int) := by omega
  have G0 := fun x : Int => Int.emod_nonneg x (show (p : Int) ≠ 0 by omega)
  have G1 := fun x : Int => Int.emod_lt_of_pos x hp
  have i1 : a ^ (o + 1) % p * (a ^ (o + 1) % p) % p = a * (a ^ (2 * o + 1) % p) % p := by
    rw [em_mul (em_em (a ^ (o + 1)) p) (em_em (a ^ (o + 1)) p), em_mul (u := a) (v := a ^ (2 * o + 1)) rfl (em_em _ _), ← Int.pow_add, Int.mul_comm, ← Int.pow_succ]
    congr 2; omega
  have i2 : (a ^ (2 * o + 1) % p) ^ 2 ^ (t - 1) % p = 1 := by
    rw [em_pow (em_em _ _), ← Int.pow_mul, ← eh]; exact ha
  unfold m_u_root_of_square
  simp only [Res.bind_ok, need_bind, sp, o2, power_ok h, cond_dec]
  by_cases ht : (t : Int) < 2
  · rw [if_pos ht]
    refine ⟨_, rfl, G0 _, G1 _, ?_⟩
    rw [i1]
    have : t = 1 := by omega
    subst this
    rw [Nat.sub_self, Nat.pow_zero, Int.pow_one] at i2
    have oo : (1 : Int) % p = 1 := Int.emod_eq_of_lt (by decide) (by omega)
    rw [em_mul (u := a) (v := 1) rfl (i2.trans oo.symm), Int.mul_one]
  · rw [if_neg ht]
    obtain ⟨z, z1, z2⟩ := ns_ok h
    have i3 : (z ^ (2 * o + 1) % p) ^ 2 ^ (t - 1) % p = p - 1 := by
      rw [em_pow (em_em _ _), ← Int.pow_mul, ← eh]; exact z2
    simp only [z1, Res.bind_ok, power_ok h]
    rw [Res.need_pos ⟨⟨by omega, by omega⟩, ⟨by omega, by omega⟩⟩]
    obtain ⟨r, x, y, q1, q2, q3, q4⟩ := ts_loop h a m_u_root_of_square_k4 (t - 1) _ _ _ (by omega) (G0 _) (G1 _) (G0 _) (G1 _) (G0 _) (G1 _) i1 i2 i3
    rw [show (((t - 1 : Nat) : Int) - 1) = (t : Int) - 2 by omega] at q1
    exact ⟨r, by rw [q1]; rfl, q2, q3, q4⟩
theorem no_zero {p : Nat} (h : Pr p) {r a : Int} (hr : r * r % p = a % p) (ha : a % p ≠ 0) : r ≠ 0 := fun z => by
  subst z
  rw [Int.zero_mul, Int.zero_emod] at hr
  exact ha hr.symm
theorem sroot_ok {p : Nat} (h : Pr p) (a : Int) : m_square_root a (p : Int) = .ok (some 0) ∧ a % p = 0 ∨ a % p ≠ 0 ∧ a ^ hf p % p = p - 1 ∧ m_square_root a (p : Int) = .ok none ∨
    a % p ≠ 0 ∧ a ^ hf p % p = 1 ∧ ∃ r, m_square_root a (p : Int) = .ok (some r) ∧ 0 < r ∧ 2 * r < p ∧ r * r % p = a % p := by
  have hp := h.pos
  have h3 := h.ge
  have ho := h.odd
  unfold m_square_root
  simp only [Res.bind_ok, class_ok h, cond_dec]
  by_cases h0 : a % p = 0
  · rw [if_pos h0, if_neg (by decide), if_pos rfl]
    exact .inl ⟨rfl, h0⟩
  · rw [if_neg h0]
    have hd : ¬ (p : Int) ∣ a := fun d => h0 (Int.emod_eq_zero_of_dvd d)
    rcases half_pow h.pr h.odd hd with q | q
    · have q' : a ^ hf p % p = 1 := q
      obtain ⟨r, r1, r2, r3, r4⟩ := root_ok h q'
      have rz := no_zero h r4 h0
      rw [if_pos q', if_neg (by decide), if_neg (by decide)]
      simp only [r1, Res.bind_ok]
      refine .inr (.inr ⟨h0, q', min r (p - r), rfl, by omega, by omega, ?_⟩)
      rcases Int.le_total r (p - r) with z | z
      · rw [Int.min_eq_left z]; exact r4
      · rw [Int.min_eq_right z, ← r4]
        rw [show ((p : Int) - r) * (p - r) = r * r + p * (p - 2 * r) by grind, Int.add_mul_emod_self_left]
    · have q' : a ^ hf p % p = p - 1 := q
      have hne : ¬ a ^ hf p % p = 1 := by rw [q']; omega
      rw [if_neg hne, if_pos rfl]
      exact .inr (.inl ⟨h0, q', rfl⟩)

/-! ### the primes -/
theorem lt4 : 4000000 < 2 ^ 256 := by decide +kernel
theorem lt1 : 1000000 < 2 ^ 256 := by decide +kernel
theorem lt60 : 4000000 < 2 ^ 60 := by decide +kernel
def tp (v : Nat) : Bool := decide (2 ≤ v) && decide (v < 1000000) && decide (v % 2 = 1) && (List.range 1000).all fun d => decide (d < 2) || decide (v < d * d) || !decide (v % d = 0)
theorem tp_ok {v : Nat} (h : tp v = true) : Pr v := by
  simp only [tp, Bool.and_eq_true, decide_eq_true_eq] at h
  obtain ⟨⟨⟨h1, h2⟩, h3⟩, h4⟩ := h
  refine ⟨small_prime h1 fun d d1 d2 d3 => ?_, h3, Nat.lt_trans h2 lt1⟩
  have hd : d < 1000 := by
    refine Nat.lt_of_not_le fun z => ?_
    have := Nat.mul_le_mul z z
    omega
  have := List.all_eq_true.mp h4 d (List.mem_range.mpr hd)
  have e : v % d = 0 := Nat.mod_eq_zero_of_dvd d3
  simp only [e, Bool.or_eq_true, decide_eq_true_eq, decide_true, Bool.not_true] at this
  rcases this with (z | z) | z
  · omega
  · omega
  · cases z
theorem list1 {z : Int} (h0 : 0 ≤ z) (h1 : z < 12) : ∃ v : Int, idx ([5, 7, 11, 13, 17, 19, 23, 29, 31, 37, 41, 43] : List Int) z = .ok v ∧ 5 ≤ v ∧ tp v.toNat = true := by
  rcases (by omega : z = 0 ∨ z = 1 ∨ z = 2 ∨ z = 3 ∨ z = 4 ∨ z = 5 ∨ z = 6 ∨ z = 7 ∨ z = 8 ∨ z = 9 ∨ z = 10 ∨ z = 11) with rfl | rfl | rfl | rfl | rfl | rfl | rfl | rfl | rfl | rfl | rfl | rfl <;> exact ⟨_, rfl, by decide, by decide +kernel⟩
theorem list2 {z : Int} (h0 : 0 ≤ z) (h1 : z < 12) : ∃ v : Int, idx ([97, 193, 257, 7681, 12289, 65537, 786433, 65521, 8191, 131071, 524287, 241] : List Int) z = .ok v ∧ 5 ≤ v ∧ tp v.toNat = true := by
  rcases (by omega : z = 0 ∨ z = 1 ∨ z = 2 ∨ z = 3 ∨ z = 4 ∨ z = 5 ∨ z = 6 ∨ z = 7 ∨ z = 8 ∨ z = 9 ∨ z = 10 ∨ z = 11) with rfl | rfl | rfl | rfl | rfl | rfl | rfl | rfl | rfl | rfl | rfl | rfl <;> exact ⟨_, rfl, by decide, by decide +kernel⟩
theorem nm {x y z : Int} {α : Type} {f : Int → Res α} (a b : Nat) (ha : x.natAbs < 2 ^ a) (hb : y.natAbs < 2 ^ b) (h : a + b ≤ 134217728) (e : x * y = z) : Res.need (CMulX x y) (f (x * y)) = f z := by
  rw [Res.need_pos (cmulx ha hb h), e]

/-! ### the five great primes -/
abbrev g0 : Nat := 57896044618658097711785492504343953926634992332820282019728792003956564819949
abbrev g1 : Nat := 115792089237316195423570985008687907853269984665640564039457584007908834671663
abbrev g2 : Nat := 2305843009213693951
abbrev g3 : Nat := 2147483647
abbrev g4 : Nat := 115792089210356248762697446949407573530086143415290314195533631308867097853951
theorem great_get {z : Int} (h0 : 0 ≤ z) (h1 : z < 5) : ∃ p : Nat, idx ([(g0 : Int), g1, g2, g3, g4] : List Int) z = .ok (p : Int) ∧ Pr p ∧ 5 ≤ p := by
  rcases (by omega : z = 0 ∨ z = 1 ∨ z = 2 ∨ z = 3 ∨ z = 4) with rfl | rfl | rfl | rfl | rfl
  · exact ⟨g0, rfl, ⟨pr_57896044618658097711785492504343953926634992332820282019728792003956564819949, by decide +kernel, by decide +kernel⟩, by decide +kernel⟩
  · exact ⟨g1, rfl, ⟨pr_115792089237316195423570985008687907853269984665640564039457584007908834671663, by decide +kernel, by decide +kernel⟩, by decide +kernel⟩
  · exact ⟨g2, rfl, ⟨prime_m61, by decide +kernel, by decide +kernel⟩, by decide +kernel⟩
  · exact ⟨g3, rfl, ⟨prime_m31, by decide +kernel, by decide +kernel⟩, by decide +kernel⟩
  · exact ⟨g4, rfl, ⟨pr_115792089210356248762697446949407573530086143415290314195533631308867097853951, by decide +kernel, by decide +kernel⟩, by decide +kernel⟩
/-! ### powers and inverses, the law's own -/
theorem Pr.pb {p : Nat} (h : Pr p) : Pb p := ⟨by have := h.ge; omega, h.lt⟩
theorem lpw_loop {p : Nat} (h : Pr p) (k : Int × Int × Int → Res Int) : ∀ (ks : List Int) (v s : Int) (e : Nat), 0 ≤ v → v < p → 0 ≤ s → s < p → e < 2 ^ ks.length → ∃ e' s', m_u_law_power_l1 (p : Int) k ks ((e : Int), v, s) = k (e', v * s ^ e % p, s') := by
  have hp := h.pos
  intro ks
  induction ks with
  | nil =>
    intro v s e v0 v1 s0 s1 he
    have : e = 0 := by simpa using he
    subst this
    exact ⟨0, s, by rw [m_u_law_power_l1, Int.pow_zero, Int.mul_one, Int.emod_eq_of_lt v0 v1]; rfl⟩
  | cons x r ih =>
    intro v s e v0 v1 s0 s1 he
    rw [List.length_cons, Nat.pow_succ] at he
    rw [m_u_law_power_l1]
    have e2 : ((e : Nat) : Int) / 2 = ((e / 2 : Nat) : Int) := by omega
    have t0 := Int.emod_nonneg (s * s) (show (p : Int) ≠ 0 by omega)
    have t1 := Int.emod_lt_of_pos (s * s) hp
    have u0 := Int.emod_nonneg (v * s) (show (p : Int) ≠ 0 by omega)
    have u1 := Int.emod_lt_of_pos (v * s) hp
    have a1 : (s * s % p) ^ (e / 2) % p = (s * s) ^ (e / 2) % p := em_pow (em_em _ _) _
    have a2 : s ^ e = s ^ (e % 2) * (s * s) ^ (e / 2) := by
      rw [← ipow2 s, ← Int.pow_mul, ← Int.pow_add, Nat.mod_add_div]
    unfold m_u_law_power_k3
    simp only [Res.bind_ok, need_bind, cond_dec, Res.need_pos (mul_res h s0 s1 s0 s1), Res.need_pos (mul_res h v0 v1 s0 s1), Res.need_pos hp, e2]
    by_cases hz : (e : Int) = 0
    · rw [if_pos hz]
      have : e = 0 := by omega
      subst this
      exact ⟨0, s, by rw [Int.pow_zero, Int.mul_one, Int.emod_eq_of_lt v0 v1]; rfl⟩
    · rw [if_neg hz]
      by_cases ho : (e : Int) % 2 = 1
      · rw [if_pos ho]
        obtain ⟨e', s', q⟩ := ih (v * s % p) (s * s % p) (e / 2) u0 u1 t0 t1 (by omega)
        refine ⟨e', s', ?_⟩
        rw [q]
        congr 2
        rw [em_mul (em_em _ _) a1, a2, show e % 2 = 1 by omega, Int.pow_one, ← Int.mul_assoc]
      · rw [if_neg ho]
        obtain ⟨e', s', q⟩ := ih v (s * s % p) (e / 2) v0 v1 t0 t1 (by omega)
        refine ⟨e', s', ?_⟩
        rw [q]
        congr 2
        rw [em_mul rfl a1, a2, show e % 2 = 0 by omega, Int.pow_zero, Int.one_mul]
theorem lpower_ok {p : Nat} (h : Pr p) (a : Int) (e : Nat) (he : e < 2 ^ 256) : m_u_law_power a (e : Int) (p : Int) = .ok (a ^ e % p) := by
  have hp := h.pos
  have h3 := h.ge
  have hr : okRange (260 : Int) := ⟨by decide, by decide⟩
  have hl : (pyRange 0 260).length = 260 := by rw [pyRange_len]; rfl
  unfold m_u_law_power
  simp only [Res.bind_ok, need_bind, Res.need_pos hp, Res.need_pos hr]
  generalize pyRange 0 260 = ks at *
  obtain ⟨e', s', q⟩ := lpw_loop h m_u_law_power_k4 ks 1 (a % p) e (by decide) (by omega) (Int.emod_nonneg _ (by omega)) (Int.emod_lt_of_pos _ hp) (by rw [hl]; exact Nat.lt_trans he (by decide +kernel))
  rw [q]
  unfold m_u_law_power_k4
  rw [Int.one_mul, em_pow (em_em a p) e]
theorem linv_ok {p : Nat} (h : Pr p) (a : Int) : m_u_law_inverse a (p : Int) = .ok (a ^ (p - 2) % p) := by
  have h3 := h.ge
  have hlt := h.lt
  unfold m_u_law_inverse
  have e : (p : Int) - 2 = ((p - 2 : Nat) : Int) := by omega
  simp only [Res.bind_ok, e, lpower_ok h _ _ (show p - 2 < 2 ^ 256 by omega)]

/-! ### residues of cells -/
theorem residue_ok {m : Int} (hm : 0 < m) (c : Int) : ∃ r, m_u_law_residue c m = .ok r ∧ 0 ≤ r ∧ r < m := by
  unfold m_u_law_residue
  simp only [Res.bind_ok, need_bind, cond_dec, pow18, Res.need_pos hm]
  have F : ∀ x : Int, ∃ r, (Res.ok (x % m) : Res Int) = .ok r ∧ 0 ≤ r ∧ r < m := fun x => ⟨_, rfl, Int.emod_nonneg _ (by omega), Int.emod_lt_of_pos _ hm⟩
  by_cases h1 : 1000000000000000000 ≤ (c.natAbs : Int)
  · rw [if_pos h1]; exact F _
  rw [if_neg h1]
  by_cases h2 : (c.natAbs : Int) % 3 = 1
  · rw [if_pos h2]
    have z0 := Int.emod_nonneg ((c.natAbs : Int) / 3) (show (6 : Int) ≠ 0 by decide)
    have z1 := Int.emod_lt_of_pos ((c.natAbs : Int) / 3) (show (0 : Int) < 6 by decide)
    generalize (c.natAbs : Int) / 3 % 6 = z at *
    rcases (by omega : z = 0 ∨ z = 1 ∨ z = 2 ∨ z = 3 ∨ z = 4 ∨ z = 5) with rfl | rfl | rfl | rfl | rfl | rfl <;> exact F _
  · rw [if_neg h2, Res.need_pos (cmulx (a := 80) (b := 60) (by omega) (by omega) (by decide))]
    exact F _
/-! ### a curve through two points -/
def Rs (p : Nat) (x : Int) : Prop := 0 ≤ x ∧ x < p
def On (p : Nat) (a b x y : Int) : Prop := (y * y - x * x * x - a * x - b) % (p : Int) = 0
instance (p : Nat) (a b x y : Int) : Decidable (On p a b x y) := inferInstanceAs (Decidable (_ = _))
theorem Rs.bd {p : Nat} [P : Pb p] {x : Int} (h : Rs p x) : Bd x 256 := ⟨by
  have := P.lt; have := h.1; have := h.2; omega⟩
theorem rs_mod {p : Nat} [P : Pb p] (x : Int) : Rs p (x % p) := ⟨Int.emod_nonneg _ (by have := P.pos; omega), Int.emod_lt_of_pos _ (by have := P.pos; omega)⟩
theorem on_z {p : Nat} {a b x y : Int} : On p a b x y ↔ zm p y * zm p y = zm p x * zm p x * zm p x + zm p a * zm p x + zm p b := by
  unfold On
  rw [← zm_zero]
  simp only [zm_sub, zm_mul]
  constructor <;> intro h <;> grind
theorem linv_z {p : Nat} (h : Pr p) (x : Int) (hx : zm p x ≠ 0) : zm p (x ^ (p - 2) % p) * zm p x = 1 := by
  rw [zm_mod, zm_pow]; exact z_inv h.pr hx
theorem zm_ne_of {p : Nat} {x y : Int} (hx : Rs p x) (hy : Rs p y) (h : x ≠ y) : zm p (x - y) ≠ 0 := fun e => h (res_eq hx.1 hx.2 hy.1 hy.2 (by
  rw [zm_sub] at e; grind))
theorem cap_ok {p : Nat} (h : Pr p) (ns : Ro Int) {at_ : Int} (ha : 0 ≤ at_) : ∃ a b x1 y1 x2 y2 : Int, m_u_law_curve_and_points ns at_ (p : Int) = .ok (T4.mk a b (T2.mk x1 y1) (T2.mk x2 y2)) ∧ Rs p a ∧ Rs p b ∧ Rs p x1 ∧ Rs p y1 ∧ Rs p x2 ∧ Rs p y2 ∧ On p a b x1 y1 ∧ On p a b x2 y2 := by
  have P : Pb p := h.pb
  have hp := h.pos
  obtain ⟨c0, d0⟩ := cell_ex ns ha
  obtain ⟨c1, d1⟩ := cell_ex ns (show 0 ≤ at_ + 1 by omega)
  obtain ⟨c2, d2⟩ := cell_ex ns (show 0 ≤ at_ + 2 by omega)
  obtain ⟨c3, d3⟩ := cell_ex ns (show 0 ≤ at_ + 3 by omega)
  obtain ⟨c4, d4⟩ := cell_ex ns (show 0 ≤ at_ + 4 by omega)
  obtain ⟨x1, e1, X1⟩ := residue_ok hp c0
  obtain ⟨y1, e2, Y1⟩ := residue_ok hp c1
  obtain ⟨x2, e3, X2⟩ := residue_ok hp c2
  obtain ⟨y2, e4, Y2⟩ := residue_ok hp c3
  obtain ⟨a, e5, A⟩ := residue_ok hp c4
  have X1 : Rs p x1 := X1
  have Y1 : Rs p y1 := Y1
  have X2 : Rs p x2 := X2
  have Y2 : Rs p y2 := Y2
  have A : Rs p a := A
  have := X1.bd
  have := Y1.bd
  have := X2.bd
  have := Y2.bd
  have := A.bd
  unfold m_u_law_curve_and_points
  simp (decide := true) only [Res.bind_ok, need_bind, d0, d1, d2, d3, d4, e1, e2, e3, e4, e5, need_bd, need_p, cond_dec, linv_ok h]
  have fin : ∀ (a y2 : Int), Rs p a → Rs p y2 → (∀ b, zm p b = zm p y1 * zm p y1 - zm p x1 * zm p x1 * zm p x1 - zm p a * zm p x1 → On p a b x2 y2) → ∃ a' b x1' y1' x2' y2' : Int, m_u_law_curve_and_points_k1 (p : Int) x1 y1 x2 (y2, a) = .ok (T4.mk a' b (T2.mk x1' y1') (T2.mk x2' y2')) ∧ Rs p a' ∧ Rs p b ∧ Rs p x1' ∧ Rs p y1' ∧ Rs p x2' ∧ Rs p y2' ∧ On p a' b x1' y1' ∧ On p a' b x2' y2' := by
    intro a y2 A Y2 hb
    have := A.bd
    unfold m_u_law_curve_and_points_k1
    simp (decide := true) only [Res.bind_ok, need_bind, need_bd, need_p]
    have zb : zm p ((y1 * y1 - x1 * x1 * x1 - a * x1) % p) = zm p y1 * zm p y1 - zm p x1 * zm p x1 * zm p x1 - zm p a * zm p x1 := by
      simp only [zm_mod, zm_sub, zm_mul]
    exact ⟨a, _, x1, y1, x2, y2, rfl, A, rs_mod _, X1, Y1, X2, Y2, on_z.mpr (by rw [zb]; grind), hb _ zb⟩
  by_cases hx : x1 = x2
  · subst hx
    rw [if_pos rfl]
    have z0 := Int.emod_nonneg (c3.natAbs : Int) (show (2 : Int) ≠ 0 by decide)
    have z1 := Int.emod_lt_of_pos (c3.natAbs : Int) (show (0 : Int) < 2 by decide)
    generalize (c3.natAbs : Int) % 2 = z at *
    rcases (by omega : z = 0 ∨ z = 1) with rfl | rfl
    · exact fin a y1 A Y1 fun b hb => on_z.mpr (by rw [hb]; grind)
    · exact fin a (-y1 % p) A (rs_mod _) fun b hb => on_z.mpr (by rw [hb, zm_mod, zm_neg]; grind)
  · rw [if_neg hx]
    have iv := linv_z h _ (zm_ne_of X2 X1 fun e => hx e.symm)
    refine fin _ y2 (rs_mod _) Y2 fun b hb => on_z.mpr ?_
    rw [hb]
    simp only [zm_mod, zm_mul, zm_sub, zm_add] at iv ⊢
    grind

/-! ### the greatest common divisor -/
theorem cof (p q X Y V M : Nat) (hq : 0 < q) (h : Y * p + X * q ≤ M) (hV : V ≤ X + p / q * Y) : V * q + Y * (p % q) ≤ M ∧ V ≤ M ∧ p / q * Y ≤ M := by
  have e : q * (p / q) + p % q = p := Nat.div_add_mod p q
  generalize p / q = t at *
  generalize p % q = r at *
  subst e
  have a1 : V * q ≤ (X + t * Y) * q := Nat.mul_le_mul_right q hV
  have a2 : (X + t * Y) * q = X * q + Y * (q * t) := by rw [Nat.add_mul]; congr 1; ac_rfl
  have a3 : Y * (q * t + r) = Y * (q * t) + Y * r := Nat.mul_add ..
  have a4 : V ≤ V * q := Nat.le_mul_of_pos_right _ hq
  have a5 : Y * (q * t) = q * (t * Y) := by ac_rfl
  have a6 : t * Y ≤ q * (t * Y) := Nat.le_mul_of_pos_left _ hq
  omega
theorem bez_step (k : (T3 Int Int Int) × (T3 Int Int Int) → Res (T3 Int Int Int)) (n : Nat) (f s : T3 Int Int Int) : m_bezout_w1 k (n + 1) (f, s) = if s.a = 0 then k (f, s) else Res.need (CDivW f.a s.a) (Res.need (CMulX (f.a / s.a) s.a) (Res.need (CMulX (f.a / s.a) s.b) (Res.need (CMulX (f.a / s.a) s.c) (m_bezout_w1 k n (s, T3.mk (f.a - f.a / s.a * s.a) (f.b - f.a / s.a * s.b) (f.c - f.a / s.a * s.c)))))) := by
  rw [m_bezout_w1]
  simp only [Res.bind_ok, need_bind, cond_not, cond_dec]
theorem natAbs_sub_mul (u t v : Int) : (u - t * v).natAbs ≤ u.natAbs + t.natAbs * v.natAbs := by
  rw [← Int.natAbs_mul]; omega
theorem gcd_step {p q : Int} : Int.gcd q (p - p / q * q) = Int.gcd p q := by
  rw [Int.mul_comm, Int.gcd_sub_mul_left_right, Int.gcd_comm]
theorem bez_loop {a b : Int} {M B : Nat} (hM : M < 2 ^ B) (hB0 : 0 < B) (hB : B ≤ 8000) (k : (T3 Int Int Int) × (T3 Int Int Int) → Res (T3 Int Int Int)) : ∀ (fuel : Nat) (f s : T3 Int Int Int), 0 ≤ f.a → 0 ≤ s.a → s.a < fuel → f.a.natAbs ≤ M → s.a.natAbs ≤ M → f.b.natAbs ≤ M → s.b.natAbs ≤ M → f.c.natAbs ≤ M → s.c.natAbs ≤ M →
    s.b.natAbs * f.a.natAbs + f.b.natAbs * s.a.natAbs ≤ M → s.c.natAbs * f.a.natAbs + f.c.natAbs * s.a.natAbs ≤ M → f.a = a * f.b + b * f.c → s.a = a * s.b + b * s.c →
    ∃ g s', m_bezout_w1 k fuel (f, s) = k (g, s') ∧ g.a = (Int.gcd f.a s.a : Int) ∧ g.a = a * g.b + b * g.c := by
  intro fuel
  induction fuel with
  | zero => intro f s h0 h1 h2; omega
  | succ n ih =>
    intro f s h0 h1 h2 h3 h4 h5 h6 h7 h8 h9 h10 h11 h12
    rw [bez_step]
    by_cases hs : s.a = 0
    · rw [if_pos hs]
      exact ⟨f, s, rfl, by rw [hs, Int.gcd_zero_right]; omega, h11⟩
    · rw [if_neg hs]
      have hp : 0 < s.a := by omega
      have ht : (f.a / s.a).natAbs = f.a.natAbs / s.a.natAbs := by
        rw [Int.natAbs_ediv_of_nonneg h0]
      have hr : f.a - f.a / s.a * s.a = f.a % s.a := by
        have := Int.emod_add_mul_ediv f.a s.a
        rw [Int.mul_comm (f.a / s.a)]; omega
      have hrn : (f.a % s.a).natAbs = f.a.natAbs % s.a.natAbs := by
        rw [Int.natAbs_emod_of_nonneg h0]
      have hq : 0 < s.a.natAbs := by omega
      have c1 := cof f.a.natAbs s.a.natAbs f.b.natAbs s.b.natAbs (f.b - f.a / s.a * s.b).natAbs M hq h9 (by rw [← ht]; exact natAbs_sub_mul ..)
      have c2 := cof f.a.natAbs s.a.natAbs f.c.natAbs s.c.natAbs (f.c - f.a / s.a * s.c).natAbs M hq h10 (by rw [← ht]; exact natAbs_sub_mul ..)
      have ht2 : (f.a / s.a).natAbs ≤ M := by rw [ht]; exact Nat.le_trans (Nat.div_le_self ..) h3
      have lt := fun {x : Int} (h : x.natAbs ≤ M) => (show x.natAbs < 2 ^ B by omega)
      rw [Res.need_pos (wide_div hp (lt h4) hB0 (by omega)), need_mulx (lt ht2) (lt h4) (by omega), need_mulx (lt ht2) (lt h6) (by omega), need_mulx (lt ht2) (lt h8) (by omega)]
      have e0 := Int.emod_nonneg f.a (show s.a ≠ 0 by omega)
      have e1 := Int.emod_lt_of_pos f.a hp
      obtain ⟨g, s', q1, q2, q3⟩ := ih s (T3.mk (f.a - f.a / s.a * s.a) (f.b - f.a / s.a * s.b) (f.c - f.a / s.a * s.c)) h1 (by show 0 ≤ f.a - f.a / s.a * s.a; rw [hr]; exact e0) (by show f.a - f.a / s.a * s.a < _; rw [hr]; omega) h4 (by show (f.a - f.a / s.a * s.a).natAbs ≤ M; rw [hr]; omega) h6 c1.2.1 h8 c2.2.1
        (by show (f.b - f.a / s.a * s.b).natAbs * s.a.natAbs + s.b.natAbs * (f.a - f.a / s.a * s.a).natAbs ≤ M; rw [hr, hrn]; exact c1.1)
        (by show (f.c - f.a / s.a * s.c).natAbs * s.a.natAbs + s.c.natAbs * (f.a - f.a / s.a * s.a).natAbs ≤ M; rw [hr, hrn]; exact c2.1)
        h12 (by
          show f.a - f.a / s.a * s.a = a * (f.b - f.a / s.a * s.b) + b * (f.c - f.a / s.a * s.c)
          generalize f.a / s.a = t
          rw [h11, h12]; grind)
      exact ⟨g, s', q1, by rw [q2]; show ((Int.gcd s.a (f.a - f.a / s.a * s.a) : Nat) : Int) = _; rw [gcd_step], q3⟩
theorem inv_ok {a m : Int} {B : Nat} (hm : 0 < m) (hb : m.natAbs < 2 ^ B) (hB : B ≤ 8000) : (Int.gcd a m = 1 → ∃ i, m_inverse a m = .ok i ∧ 0 ≤ i ∧ i < m ∧ m ∣ a * i - 1) ∧ (Int.gcd a m ≠ 1 → m_inverse a m = .exc "NoInverse") := by
  have e0 := Int.emod_nonneg a (show m ≠ 0 by omega)
  have e1 := Int.emod_lt_of_pos a hm
  have hB0 : 0 < B := by
    rcases Nat.eq_zero_or_pos B with z | z
    · subst z; simp at hb; omega
    · exact z
  obtain ⟨g, s', q1, q2, q3⟩ := bez_loop (a := a % m) (b := m) (M := m.natAbs) hb hB0 hB m_bezout_k3 (m.natAbs + 1) (T3.mk (a % m) 1 0) (T3.mk m 0 1) e0 (by show 0 ≤ m; omega) (by show m < _; omega) (by show (a % m).natAbs ≤ _; omega) (by show m.natAbs ≤ _; omega) (by show 1 ≤ _; omega) (by show 0 ≤ _; omega) (by show 0 ≤ _; omega) (by show 1 ≤ _; omega)
    (by show 0 * (a % m).natAbs + 1 * m.natAbs ≤ _; omega) (by show 1 * (a % m).natAbs + 0 * m.natAbs ≤ _; omega) (by show a % m = a % m * 1 + m * 0; omega) (by show m = a % m * 0 + m * 1; omega)
  have q2 : g.a = (Int.gcd (a % m) m : Int) := q2
  have eg : Int.gcd (a % m) m = Int.gcd a m := by
    have : a % m = a - m * (a / m) := by have := Int.emod_add_mul_ediv a m; omega
    rw [this, Int.gcd_comm, Int.gcd_sub_mul_left_right, Int.gcd_comm]
  rw [eg] at q2
  have hbz : m_bezout (a % m) m = .ok g := by
    unfold m_bezout
    simp only [Res.bind_ok]
    rw [q1]
    unfold m_bezout_k3
    simp only [Res.bind_ok, cond_dec]
    rw [if_neg (by omega)]
  clear q1
  unfold m_inverse
  simp only [Res.bind_ok, need_bind, cond_not, cond_dec, Res.need_pos hm, hbz]
  constructor
  · intro h1
    rw [if_pos (by omega)]
    refine ⟨_, rfl, Int.emod_nonneg _ (by omega), Int.emod_lt_of_pos _ hm, ?_⟩
    have h2 : a % m * g.b + m * g.c = 1 := by omega
    have h3 := Int.emod_add_mul_ediv a m
    have h4 := Int.emod_add_mul_ediv g.b m
    generalize a % m = r at *
    generalize a / m = t at *
    generalize g.b % m = u at *
    generalize g.b / m = v at *
    refine ⟨t * u - r * v - g.c, ?_⟩
    rw [← h3]
    have h5 : u = g.b - m * v := by omega
    rw [h5]
    grind
  · intro h1
    rw [if_neg (by omega)]
/-! ### the inverse modulo a prime -/
theorem pinv {p : Nat} (h : Pr p) (a : Int) (ha : zm p a ≠ 0) : ∃ i, m_inverse a (p : Int) = .ok i ∧ Rs p i ∧ zm p i * zm p a = 1 := by
  have hp := h.pos
  have hg : Int.gcd a (p : Int) = 1 := by
    have : Nat.Coprime p a.natAbs := h.pr.cop fun d => ha (zm_dvd.mpr (Int.ofNat_dvd_left.mpr d))
    show Nat.gcd a.natAbs p = 1
    rw [Nat.gcd_comm]; exact this
  obtain ⟨i, e, i0, i1, i2⟩ := (inv_ok (a := a) (m := p) (B := 256) hp (by rw [Int.natAbs_natCast]; exact h.lt) (by decide)).1 hg
  refine ⟨i, e, ⟨i0, i1⟩, ?_⟩
  have := zm_dvd.mpr i2
  rw [zm_sub, zm_mul] at this
  have t : zm p 1 = 1 := rfl
  rw [t] at this
  grind
theorem pinv_f {p : Nat} [Prm p] (h : Pr p) (a : Int) (ha : zm p a ≠ 0) : ∃ i, m_inverse a (p : Int) = .ok i ∧ Rs p i ∧ zm p i = (zm p a)⁻¹ := by
  obtain ⟨i, e, r, q⟩ := pinv h a ha
  refine ⟨i, e, r, ?_⟩
  have := z_mul_inv ha
  grind

/-! ### the program's curve -/
theorem rwp_ok {p : Nat} (h : Pr p) (a : Int) (odd : Bool) : (m_root_with_parity a (p : Int) odd = .ok none ∧ (a % p ≠ 0 ∧ a ^ hf p % p = p - 1 ∨ a % p = 0 ∧ odd = true)) ∨ ∃ r, m_root_with_parity a (p : Int) odd = .ok (some r) ∧ 0 ≤ r ∧ r < p ∧ r * r % p = a % p ∧ (decide (r % 2 = 1) = odd) := by
  have hp := h.pos
  have ho := h.odd
  have h3 := h.ge
  have ti : ∀ r : Int, toD (some r) = D.int r := fun _ => rfl
  have ai : ∀ r : Int, D.asInt (D.int r) = .ok r := fun _ => rfl
  have nn : ∀ r : Int, (D.int r).isNon = false := fun _ => rfl
  have n0 : (toD (none : Option Int)).isNon = true := rfl
  have ok0 : ∀ r s : Int, (D.int r).okq = true ∧ (toD s).okq = true := fun _ _ => ⟨rfl, rfl⟩
  have td : ∀ s : Int, toD s = D.int s := fun _ => rfl
  have ne : ∀ r : Int, r ≠ 0 → pyEq (D.int r) (D.int 0) = false := fun r hr => pyEq_ne rfl rfl fun e => hr (D.int.inj e)
  have e0 : pyEq (D.int 0) (D.int 0) = true := pyEq_self rfl
  unfold m_root_with_parity
  rcases sroot_ok h a with ⟨q1, q2⟩ | ⟨q1, q2, q3⟩ | ⟨q1, q2, r, q3, q4, q5, q6⟩
  · simp only [Res.bind_ok, q1, ti, nn, cond_false, ai, cond_dec]
    cases odd
    · refine .inr ⟨0, ?_, by decide, by omega, by rw [q2]; rfl, rfl⟩
      rfl
    · refine .inl ⟨?_, .inr ⟨q2, rfl⟩⟩
      rw [if_pos rfl, if_neg (by decide), Res.need_pos (ok0 0 0), td, e0]
      rfl
  · simp only [Res.bind_ok, q3, n0, cond_true]
    exact .inl ⟨trivial, .inl ⟨q1, q2⟩⟩
  · simp only [Res.bind_ok, q3, ti, nn, cond_false, ai, cond_dec]
    by_cases c : r % 2 = if odd = true then (1 : Int) else 0
    · rw [if_pos c]
      refine .inr ⟨r, rfl, by omega, by omega, q6, ?_⟩
      cases odd
      · rw [if_neg (by decide)] at c; exact decide_eq_false (by omega)
      · rw [if_pos rfl] at c; exact decide_eq_true c
    · rw [if_neg c, Res.need_pos (ok0 r 0), td, ne r (by omega)]
      refine .inr ⟨p - r, rfl, by omega, by omega, ?_, ?_⟩
      · rw [← q6, show ((p : Int) - r) * (p - r) = r * r + p * (p - 2 * r) by grind, Int.add_mul_emod_self_left]
      · cases odd
        · rw [if_neg (by decide)] at c; exact decide_eq_false (by omega)
        · rw [if_pos rfl] at c; exact decide_eq_true (by omega)
theorem isres_int (i m : Int) : m_is_residue (D.int i) m = .ok (decide (0 ≤ i ∧ i < m)) := by
  have e1 : (toD (D.int i)).plain = true := rfl
  have e2 : isI "int" (toD (D.int i)) = true := rfl
  have e3 : isI "bool" (toD (D.int i)) = false := rfl
  have ai : D.asInt (D.int i) = .ok i := rfl
  unfold m_is_residue m_is_whole
  simp only [Res.bind_ok, Res.need_pos e1, e2, e3, cond_true, Bool.not_false, ai]
  by_cases h0 : 0 ≤ i <;> by_cases h1 : i < m <;> simp [h0, h1, Res.bind_ok]
theorem isres_bl (b : Bool) (m : Int) : m_is_residue (D.bl b) m = .ok false := by
  have e1 : (toD (D.bl b)).plain = true := rfl
  have e2 : isI "int" (toD (D.bl b)) = true := rfl
  have e3 : isI "bool" (toD (D.bl b)) = true := rfl
  unfold m_is_residue m_is_whole
  simp only [Res.bind_ok, Res.need_pos e1, e2, e3, cond_true, Bool.not_true, cond_false]
theorem pair_two {x y : D} {m : Int} {u v : Bool} (hx : m_is_residue x m = .ok u) (hy : m_is_residue y m = .ok v) : m_is_residue_pair (D.tup [x, y]) m = .ok (u && v) := by
  have e1 : (toD (D.tup [x, y])).plain = true := rfl
  have e2 : isI "tuple" (toD (D.tup [x, y])) = true := rfl
  have e3 : D.lenR (D.tup [x, y]) = .ok 2 := rfl
  have e4 : D.asTu (D.tup [x, y]) = .ok ⟨[x, y]⟩ := rfl
  unfold m_is_residue_pair
  simp only [Res.bind_ok, Res.need_pos e1, e2, e3, e4, cond_true, cond_dec, if_pos, need_bind]
  rw [Res.need_pos (show [x, y].length ≤ 16777216 by show 2 ≤ 16777216; decide)]
  simp only [compL, Res.bind_ok, hx, hy, Res.noexc, cond_true, List.all_cons, List.all_nil, id, Bool.and_true]
theorem pair_no {x : D} {m : Int} (hp : x.plain = true) (h : isI "tuple" x = false) : m_is_residue_pair x m = .ok false := by
  unfold m_is_residue_pair
  simp only [Res.bind_ok, toD_D, Res.need_pos hp, h, cond_false]
theorem pair_len {xs : List D} {m : Int} (h : xs.length ≠ 2) : m_is_residue_pair (D.tup xs) m = .ok false := by
  have e1 : (toD (D.tup xs)).plain = true := rfl
  have e2 : isI "tuple" (toD (D.tup xs)) = true := rfl
  have e3 : D.lenR (D.tup xs) = .ok (xs.length : Int) := rfl
  unfold m_is_residue_pair
  simp only [Res.bind_ok, Res.need_pos e1, e2, e3, cond_true, cond_dec]
  rw [if_neg (by omega)]
theorem side_ok {p : Nat} [Pb p] {a b x : Int} [Bd a 256] [Bd x 256] : m_Curve_u_right_side ⟨p, a, b⟩ x = .ok ((x ^ 3 + a * x + b) % p) := by
  unfold m_Curve_u_right_side
  simp (decide := true) only [Res.bind_ok, need_bind, need_bd, need_p, need_pw3, tn3]
theorem has_pair {p : Nat} [Pb p] {a b x y : Int} (ha : Rs p a) (hx : Rs p x) (hy : Rs p y) : m_Curve_has ⟨p, a, b⟩ (D.tup [D.int x, D.int y]) = .ok (decide (On p a b x y)) := by
  have := ha.bd
  have := hx.bd
  have := hy.bd
  have e0 : (toD (D.tup [D.int x, D.int y])).isNon = false := rfl
  have e4 : D.asTu (D.tup [D.int x, D.int y]) = .ok ⟨[D.int x, D.int y]⟩ := rfl
  have i0 : idx [D.int x, D.int y] (0 : Int) = .ok (D.int x) := rfl
  have i1 : idx [D.int x, D.int y] (1 : Int) = .ok (D.int y) := rfl
  have ai : ∀ i, D.asInt (D.int i) = .ok i := fun _ => rfl
  have px := pair_two (isres_int x p) (isres_int y p)
  rw [decide_eq_true (show 0 ≤ x ∧ x < p from hx), decide_eq_true (show 0 ≤ y ∧ y < p from hy)] at px
  unfold m_Curve_has
  simp (decide := true) only [Res.bind_ok, e0, cond_false, px, Bool.and_true, Bool.not_true, e4, i0, i1, ai, side_ok, need_bind, need_bd, need_p, need_pw2, tn2]
  congr 1
  refine decide_eq_decide.mpr ?_
  rw [on_z, ← zm_zero]
  simp only [zm_sub, zm_mod, zm_add, zm_mul, zm_pow]
  constructor <;> intro h <;> grind
theorem has_no {p : Nat} {a b : Int} {x : D} (h : m_is_residue_pair x p = .ok false) (hn : x.isNon = false) : m_Curve_has ⟨p, a, b⟩ x = .ok false := by
  unfold m_Curve_has
  simp only [Res.bind_ok, toD_D, hn, cond_false, h, Bool.not_false, cond_true]
theorem init_ok {p : Nat} (h : Pr p) (h5 : 5 ≤ p) (a b : Int) : m_Curve_init (p : Int) a b = if (4 * (a % p) ^ 3 + 27 * (b % p) ^ 2) % (p : Int) = 0 then .exc "Refused" else .ok ⟨p, a % p, b % p⟩ := by
  have P := h.pb
  have ho := h.odd
  have c1 : decide ((p : Int) < 5) = false := decide_eq_false (by omega)
  have c2 : decide ((p : Int) % 2 = 0) = false := decide_eq_false (by omega)
  unfold m_Curve_init
  simp (decide := true) only [Res.bind_ok, c1, c2, cond_false, need_bind, need_p, need_pw3, need_pw2, tn3, tn2, cond_dec]
theorem init_bad {m : Int} (h : m < 5 ∨ m % 2 = 0) (a b : Int) : m_Curve_init m a b = .exc "OutOfRange" := by
  unfold m_Curve_init
  simp only [Res.bind_ok]
  by_cases c : m < 5
  · simp only [decide_eq_true c, cond_true, Res.bind_ok]
  · simp only [decide_eq_false c, cond_false, Res.bind_ok, decide_eq_true (h.resolve_left c), cond_true]
theorem lift_in {p : Nat} (h : Pr p) {a b x : Int} (ha : Rs p a) (hx : Rs p x) (odd : Bool) : (m_Curve_lift ⟨p, a, b⟩ x odd = .ok none ∧ ((x * x * x + a * x + b) % p ≠ 0 ∧ ((x * x * x + a * x + b) % p) ^ hf p % p = p - 1 ∨ (x * x * x + a * x + b) % p = 0 ∧ odd = true)) ∨ ∃ r, m_Curve_lift ⟨p, a, b⟩ x odd = .ok (some (T2.mk x r)) ∧ Rs p r ∧ On p a b x r ∧ (decide (r % 2 = 1) = odd) := by
  have P := h.pb
  have := ha.bd
  have := hx.bd
  have e3 : (x ^ 3 + a * x + b) % (p : Int) = (x * x * x + a * x + b) % p := by
    rw [Int.pow_succ, ipow2]
  have o1 : ∀ r : Int, (toD (some r)).isNon = false := fun _ => rfl
  have o2 : (toD (none : Option Int)).isNon = true := rfl
  have b1 : (!decide (0 ≤ x ∧ x < (p : Int))) = false := by rw [decide_eq_true (show 0 ≤ x ∧ x < (p : Int) from hx)]; rfl
  have tx : toD x = D.int x := rfl
  unfold m_Curve_lift
  simp only [Res.bind_ok, tx, isres_int, b1, cond_false, side_ok, e3]
  rcases rwp_ok h ((x * x * x + a * x + b) % p) odd with ⟨q1, q2⟩ | ⟨r, q1, q2, q3, q4, q5⟩
  · simp only [q1, Res.bind_ok, o2, cond_true]
    refine .inl ⟨trivial, ?_⟩
    rw [em_em] at q2
    exact q2
  · simp only [q1, Res.bind_ok, o1, cond_false]
    refine .inr ⟨r, rfl, ⟨q2, q3⟩, on_z.mpr ?_, q5⟩
    rw [em_em] at q4
    have := zm_eq.mpr q4
    simpa only [zm_add, zm_mul] using this
theorem lift_out {p : Nat} {a b x : Int} (hx : ¬ Rs p x) (odd : Bool) : m_Curve_lift ⟨p, a, b⟩ x odd = .ok none := by
  have b1 : (!decide (0 ≤ x ∧ x < (p : Int))) = true := by rw [decide_eq_false (show ¬ (0 ≤ x ∧ x < (p : Int)) from hx)]; rfl
  have tx : toD x = D.int x := rfl
  unfold m_Curve_lift
  simp only [Res.bind_ok, tx, isres_int, b1, cond_true]
theorem lsing_ok {p : Nat} [Pb p] {a b : Int} [Bd a 256] [Bd b 256] : m_u_law_singular (p : Int) a b = .ok (decide ((4 * a ^ 3 + 27 * b ^ 2) % (p : Int) = 0)) := by
  unfold m_u_law_singular
  simp (decide := true) only [Res.bind_ok, need_bind, need_bd, need_p]
  rw [Int.pow_succ, ipow2, ipow2, show 4 * a * a * a + 27 * b * b = 4 * (a * a * a) + 27 * (b * b) by grind]
theorem neg_some {p : Nat} [Pb p] {a b x y : Int} : m_Curve_negate ⟨p, a, b⟩ (some (T2.mk x y)) = .ok (some (T2.mk x (-y % p))) := by
  have o1 : (toD (some (T2.mk x y))).isNon = false := rfl
  have og : optGet (some (T2.mk x y)) = .ok (T2.mk x y) := rfl
  unfold m_Curve_negate
  simp only [Res.bind_ok, o1, cond_false, og, need_bind, need_p]
theorem on_neg {p : Nat} {a b x y : Int} (h : On p a b x y) : On p a b x (-y % p) := by
  rw [on_z] at h ⊢
  rw [zm_mod, zm_neg]; grind
/-! ### points as the program keeps them -/
class CvP (C : Cv) : Prop where
  pr : Pr C.p
instance (C : Cv) [h : CvP C] : Pb C.p := h.pr.pb
abbrev P2 := Option (T2 Int Int)
def lfv {p : Nat} : Mi.Pt (Zp p) → P2
  | none => none
  | some (x, y) => some (T2.mk (zv x) (zv y))
def lf {C : Cv} (P : C.Pt) : P2 := lfv P.v
abbrev Cv.o (C : Cv) : O_Curve := ⟨C.p, C.a, C.b⟩
theorem lfv_inj {p : Nat} {P Q : Mi.Pt (Zp p)} (h : lfv P = lfv Q) : P = Q := by
  cases P with
  | none => cases Q with
    | none => rfl
    | some q => cases h
  | some r => cases Q with
    | none => cases h
    | some q =>
      obtain ⟨x1, y1⟩ := r
      obtain ⟨x2, y2⟩ := q
      have h := Option.some.inj h
      rw [zv_inj (congrArg T2.a h), zv_inj (congrArg T2.b h)]
section
variable {C : Cv}
theorem lf_inj {P Q : C.Pt} (h : lf P = lf Q) : P = Q := Cv.ext (lfv_inj h)
theorem lf_zero : lf (0 : C.Pt) = none := rfl
theorem lf_none {P : C.Pt} (h : lf P = none) : P = 0 := lf_inj h
theorem toD_some2 (x y : Int) : toD (some (T2.mk x y)) = D.tup [D.int x, D.int y] := rfl
theorem toD_T2 (x y : Int) : toD (T2.mk x y) = D.tup [D.int x, D.int y] := rfl
theorem toD_none2 : toD (none : P2) = D.non := rfl
theorem okq_p2 (P : P2) : (toD P).okq = true := by
  cases P with
  | none => rfl
  | some q => obtain ⟨x, y⟩ := q; rfl
theorem okq_t2 (q : T2 Int Int) : (toD q).okq = true := by obtain ⟨x, y⟩ := q; rfl
theorem nob_p2 (P : P2) : (toD P).nob = true := by
  cases P with
  | none => rfl
  | some q => obtain ⟨x, y⟩ := q; rfl
theorem toD_p2_inj {P Q : P2} (h : toD P = toD Q) : P = Q := by
  cases P with
  | none => cases Q with
    | none => rfl
    | some q => obtain ⟨x, y⟩ := q; rw [toD_none2, toD_some2] at h; cases h
  | some r => cases Q with
    | none => obtain ⟨x, y⟩ := r; rw [toD_none2, toD_some2] at h; cases h
    | some q =>
      obtain ⟨x1, y1⟩ := r
      obtain ⟨x2, y2⟩ := q
      rw [toD_some2, toD_some2] at h
      simp only [D.tup.injEq, List.cons.injEq, D.int.injEq, and_true] at h
      rw [h.1, h.2]
theorem pyEq_p2 (P Q : P2) : pyEq (toD P) (toD Q) = true ↔ P = Q := (pyEq_dec (nob_p2 P) (nob_p2 Q)).trans ⟨toD_p2_inj, fun h => by rw [h]⟩
noncomputable instance : DecidableEq C.Pt := fun a b => Classical.propDecidable _
theorem pyEq_lf (P Q : C.Pt) : pyEq (toD (lf P)) (toD (lf Q)) = decide (P = Q) := by
  by_cases h : P = Q
  · rw [decide_eq_true h, h]; exact (pyEq_p2 _ _).mpr rfl
  · rw [decide_eq_false h]
    cases e : pyEq (toD (lf P)) (toD (lf Q)) with
    | false => rfl
    | true => exact absurd (lf_inj ((pyEq_p2 _ _).mp e)) h
theorem pyEq_t2 (P Q : T2 Int Int) : pyEq (toD P) (toD Q) = true ↔ P = Q := (pyEq_p2 (some P) (some Q)).trans ⟨Option.some.inj, fun h => by rw [h]⟩
theorem isNon_lf0 : (toD (lf (0 : C.Pt))).isNon = true := rfl
theorem isNon_lf {P : C.Pt} (h : P ≠ 0) : (toD (lf P)).isNon = false := by
  cases e : lf P with
  | none => exact absurd (lf_none e) h
  | some q => obtain ⟨x, y⟩ := q; rfl
/-- the coordinates of a point -/
theorem lf_some {P : C.Pt} {x y : Int} (h : lf P = some (T2.mk x y)) : Rs C.p x ∧ Rs C.p y ∧ On C.p C.a C.b x y ∧ P.v = some (zm C.p x, zm C.p y) := by
  obtain ⟨v, on⟩ := P
  cases v with
  | none => cases h
  | some q =>
    obtain ⟨u, w⟩ := q
    have h : T2.mk (zv u) (zv w) = T2.mk x y := Option.some.inj h
    have hx : zv u = x := congrArg T2.a h
    have hy : zv w = y := congrArg T2.b h
    subst hx hy
    refine ⟨⟨zv_ge u, zv_lt u⟩, ⟨zv_ge w, zv_lt w⟩, ?_, ?_⟩
    · rw [on_z, zm_zv, zm_zv]; exact on
    · show some (u, w) = some (_, _)
      rw [zm_zv, zm_zv]
theorem lf_ex {x y : Int} (hx : Rs C.p x) (hy : Rs C.p y) (ho : On C.p C.a C.b x y) : ∃ P : C.Pt, lf P = some (T2.mk x y) ∧ P.v = some (zm C.p x, zm C.p y) :=
  ⟨⟨some (zm C.p x, zm C.p y), on_z.mp ho⟩, by
    show some (T2.mk (zv (zm C.p x)) (zv (zm C.p y))) = _
    rw [zv_of hx.1 hx.2, zv_of hy.1 hy.2], rfl⟩
theorem Cv.A (C : Cv) : Rs C.p C.a := ⟨C.a0, C.a1⟩
theorem Cv.B (C : Cv) : Rs C.p C.b := ⟨C.b0, C.b1⟩
theorem lf_neg {P : C.Pt} {x y : Int} (h : lf P = some (T2.mk x y)) : lf (-P) = some (T2.mk x (-y % C.p)) := by
  obtain ⟨hx, hy, ho, hv⟩ := lf_some h
  have : (-P).v = some (zm C.p x, -zm C.p y) := by
    show pneg P.v = _
    rw [hv]; rfl
  show lfv (-P).v = _
  rw [this]
  show some (T2.mk (zv (zm C.p x)) (zv (-zm C.p y))) = _
  rw [zv_of hx.1 hx.2, ← zm_neg, zv_zm]
theorem neg_ok [CvP C] (P : C.Pt) : m_Curve_negate C.o (lf P) = .ok (lf (-P)) := by
  cases e : lf P with
  | none =>
    rw [lf_none e, g_neg_zero]
    rfl
  | some q =>
    obtain ⟨x, y⟩ := q
    rw [neg_some, lf_neg e]
def IsSl (C : Cv) (x1 y1 x2 y2 s : Int) : Prop := (zm C.p x1 = zm C.p x2 → zm C.p s = (3 * zm C.p x1 * zm C.p x1 + zm C.p C.a) * (2 * zm C.p y1)⁻¹) ∧ (zm C.p x1 ≠ zm C.p x2 → zm C.p s = (zm C.p y2 - zm C.p y1) * (zm C.p x2 - zm C.p x1)⁻¹)
/-- the sum by its coordinates -/
theorem lf_add {P Q : C.Pt} {x1 y1 x2 y2 s : Int} (h1 : lf P = some (T2.mk x1 y1)) (h2 : lf Q = some (T2.mk x2 y2)) (hn : Q ≠ -P)
    (hs : IsSl C x1 y1 x2 y2 s) :
    lf (P + Q) = some (T2.mk ((s * s - x1 - x2) % C.p) ((s * (x1 - (s * s - x1 - x2) % C.p) - y1) % C.p)) := by
  obtain ⟨X1, Y1, O1, v1⟩ := lf_some h1
  obtain ⟨X2, Y2, O2, v2⟩ := lf_some h2
  have e : (P + Q).v = padd (zm C.p C.a) P.v Q.v := rfl
  rw [v1, v2, padd_eq, if_neg] at e
  · dsimp only at e
    have hs2 : zm C.p s = @ite _ (zm C.p x1 = zm C.p x2) (Classical.propDecidable _) ((3 * zm C.p x1 * zm C.p x1 + zm C.p C.a) * (2 * zm C.p y1)⁻¹) ((zm C.p y2 - zm C.p y1) * (zm C.p x2 - zm C.p x1)⁻¹) := by
      by_cases c : zm C.p x1 = zm C.p x2
      · rw [if_pos c]; exact hs.1 c
      · rw [if_neg c]; exact hs.2 c
    rw [← hs2] at e
    show lfv (P + Q).v = _
    rw [e]
    show some (T2.mk (zv _) (zv _)) = _
    congr 2
    rw [← zv_zm]
    congr 1
    simp only [zm_sub, zm_mul, zm_mod]
  · rintro ⟨c1, c2⟩
    apply hn
    apply Cv.ext
    show Q.v = pneg P.v
    rw [v1, v2]
    show some (_, _) = some (_, _)
    rw [c1, show zm C.p y2 = -zm C.p y1 by grind]
theorem lf_ne {P Q : C.Pt} {x1 y1 x2 y2 : Int} (h1 : lf P = some (T2.mk x1 y1)) (h2 : lf Q = some (T2.mk x2 y2)) (hn : Q ≠ -P) (hx : x1 = x2) : P = Q ∧ y1 = y2 ∧ zm C.p y1 ≠ 0 := by
  subst hx
  obtain ⟨X1, Y1, O1, v1⟩ := lf_some h1
  obtain ⟨X2, Y2, O2, v2⟩ := lf_some h2
  have o1 := on_z.mp O1
  have o2 := on_z.mp O2
  have d : (zm C.p y1 - zm C.p y2) * (zm C.p y1 + zm C.p y2) = 0 := by grind
  have hneg : zm C.p y1 + zm C.p y2 ≠ 0 := by
    intro c2
    apply hn
    apply Cv.ext
    show Q.v = pneg P.v
    rw [v1, v2]
    show some (_, _) = some (_, _)
    rw [show zm C.p y2 = -zm C.p y1 by grind]
  have e : zm C.p y1 = zm C.p y2 := by
    rcases z_dom C.pr d with q | q
    · grind
    · exact absurd q hneg
  refine ⟨Cv.ext (by rw [v1, v2, e]), res_eq Y1.1 Y1.2 Y2.1 Y2.2 e, fun z => hneg ?_⟩
  rw [← e, z]; grind
theorem slope_ok [hC : CvP C] {P Q : C.Pt} {x1 y1 x2 y2 : Int} (h1 : lf P = some (T2.mk x1 y1)) (h2 : lf Q = some (T2.mk x2 y2)) (hn : Q ≠ -P) :
    ∃ s, m_Curve_u_slope C.o (T2.mk x1 y1) (T2.mk x2 y2) = .ok s ∧ Rs C.p s ∧ IsSl C x1 y1 x2 y2 s := by
  obtain ⟨X1, Y1, O1, v1⟩ := lf_some h1
  obtain ⟨X2, Y2, O2, v2⟩ := lf_some h2
  have := X1.bd
  have := X2.bd
  have := Y1.bd
  have := Y2.bd
  have := (Cv.A C).bd
  have ok0 : (toD (T2.mk x1 y1)).okq = true ∧ (toD (T2.mk x2 y2)).okq = true := ⟨okq_t2 _, okq_t2 _⟩
  have fin : ∀ rise run : Int, Bd rise 600 → zm C.p run ≠ 0 → ∃ s, m_Curve_u_slope_k1 C.o (rise, run) = .ok s ∧ Rs C.p s ∧ zm C.p s = zm C.p rise * (zm C.p run)⁻¹ := by
    intro rise run hb hr
    obtain ⟨i, e, ri, z⟩ := pinv_f hC.pr run hr
    have := ri.bd
    unfold m_Curve_u_slope_k1
    simp (decide := true) only [Res.bind_ok, e, need_bind, need_bd, need_p]
    exact ⟨_, rfl, rs_mod _, by rw [zm_mod, zm_mul, z]⟩
  unfold m_Curve_u_slope
  simp (decide := true) only [Res.bind_ok, Res.need_pos ok0, need_bind, need_pw2, tn2]
  by_cases hx : x1 = x2
  · obtain ⟨e1, e2, e3⟩ := lf_ne h1 h2 hn hx
    subst hx e2
    rw [(pyEq_t2 _ _).mpr rfl, cond_true]
    have hr : zm C.p (2 * y1) ≠ 0 := by rw [zm_mul]; exact z_mul_ne C.pr C.two e3
    obtain ⟨s, a1, a2, a3⟩ := fin (3 * x1 ^ 2 + C.a) (2 * y1) ⟨Bd.up (bd_add (x := 3 * x1 ^ 2) (y := C.a)).lt (by decide)⟩ hr
    refine ⟨s, a1, a2, fun _ => ?_, fun z => absurd rfl z⟩
    rw [a3]
    have t : zm C.p (3 * x1 ^ 2 + C.a) = 3 * zm C.p x1 * zm C.p x1 + zm C.p C.a := by
      rw [ipow2, zm_add, zm_mul, zm_mul]
      show (3 : Zp C.p) * _ + _ = _
      grind
    rw [t]; rfl
  · have hne : zm C.p x1 ≠ zm C.p x2 := fun e => hx (res_eq X1.1 X1.2 X2.1 X2.2 e)
    have hq : pyEq (toD (T2.mk x1 y1)) (toD (T2.mk x2 y2)) = false := by
      cases e : pyEq (toD (T2.mk x1 y1)) (toD (T2.mk x2 y2)) with
      | false => rfl
      | true => exact absurd (congrArg T2.a ((pyEq_t2 _ _).mp e)) hx
    rw [hq, cond_false]
    have hr : zm C.p (x2 - x1) ≠ 0 := by rw [zm_sub]; grind
    obtain ⟨s, a1, a2, a3⟩ := fin (y2 - y1) (x2 - x1) ⟨Bd.up (bd_sub (x := y2) (y := y1)).lt (by decide)⟩ hr
    exact ⟨s, a1, a2, fun z => absurd z hne, fun _ => by rw [a3, zm_sub, zm_sub]⟩
theorem add_ok [hC : CvP C] (P Q : C.Pt) : m_Curve_add C.o (lf P) (lf Q) = .ok (lf (P + Q)) := by
  unfold m_Curve_add
  by_cases hP : P = 0
  · subst hP
    simp only [Res.bind_ok, isNon_lf0, cond_true, g_zero_add]
  by_cases hQ : Q = 0
  · subst hQ
    simp only [Res.bind_ok, isNon_lf0, isNon_lf hP, cond_true, cond_false, g_add_zero]
  have ok0 : (toD (lf Q)).okq = true ∧ (toD (lf (-P))).okq = true := ⟨okq_p2 _, okq_p2 _⟩
  simp only [Res.bind_ok, isNon_lf hP, isNon_lf hQ, cond_false, neg_ok, Res.need_pos ok0, pyEq_lf]
  by_cases hn : Q = -P
  · rw [decide_eq_true hn, cond_true, hn, g_add_neg]; rfl
  · rw [decide_eq_false hn, cond_false]
    cases e1 : lf P with
    | none => exact absurd (lf_none e1) hP
    | some q =>
    cases e2 : lf Q with
    | none => exact absurd (lf_none e2) hQ
    | some r =>
    obtain ⟨x1, y1⟩ := q
    obtain ⟨x2, y2⟩ := r
    obtain ⟨X1, Y1, O1, v1⟩ := lf_some e1
    obtain ⟨X2, Y2, O2, v2⟩ := lf_some e2
    obtain ⟨s, a1, a2, a3⟩ := slope_ok e1 e2 hn
    have := X1.bd
    have := X2.bd
    have := Y1.bd
    have := Y2.bd
    have := a2.bd
    have og : ∀ z : T2 Int Int, optGet (some z) = .ok z := fun _ => rfl
    simp (decide := true) only [Res.bind_ok, og, a1, need_bind, need_bd, need_p, need_pw2, tn2]
    rw [lf_add e1 e2 hn a3, ipow2]
/-! ### the law's own sum -/
theorem linv_f {p : Nat} [Prm p] (h : Pr p) (x : Int) (hx : zm p x ≠ 0) : ∃ i, m_u_law_inverse x (p : Int) = .ok i ∧ Rs p i ∧ zm p i = (zm p x)⁻¹ := by
  have P := h.pb
  refine ⟨_, linv_ok h x, rs_mod _, ?_⟩
  have a := linv_z h x hx
  have := z_mul_inv hx
  grind
theorem ladd_ok [hC : CvP C] (P Q : C.Pt) : m_u_law_add (C.p : Int) C.a (lf P) (lf Q) = .ok (lf (P + Q)) := by
  unfold m_u_law_add
  by_cases hP : P = 0
  · subst hP
    simp only [Res.bind_ok, isNon_lf0, cond_true, g_zero_add]
  by_cases hQ : Q = 0
  · subst hQ
    simp only [Res.bind_ok, isNon_lf0, isNon_lf hP, cond_true, cond_false, g_add_zero]
  simp only [Res.bind_ok, isNon_lf hP, isNon_lf hQ, cond_false]
  cases e1 : lf P with
  | none => exact absurd (lf_none e1) hP
  | some q =>
  cases e2 : lf Q with
  | none => exact absurd (lf_none e2) hQ
  | some r =>
  obtain ⟨x1, y1⟩ := q
  obtain ⟨x2, y2⟩ := r
  obtain ⟨X1, Y1, O1, v1⟩ := lf_some e1
  obtain ⟨X2, Y2, O2, v2⟩ := lf_some e2
  have := X1.bd
  have := X2.bd
  have := Y1.bd
  have := Y2.bd
  have := (Cv.A C).bd
  have og : ∀ z : T2 Int Int, optGet (some z) = .ok z := fun _ => rfl
  have dg : (x1 = x2 ∧ (y1 + y2) % (C.p : Int) = 0) ↔ Q = -P := by
    constructor
    · rintro ⟨c1, c2⟩
      apply lf_inj
      rw [e2, lf_neg e1, c1]
      have : y2 = -y1 % C.p := res_eq Y2.1 Y2.2 (rs_mod _).1 (rs_mod _).2 (by
        have := zm_zero.mpr c2
        rw [zm_add] at this
        rw [zm_mod, zm_neg]; grind)
      rw [this]
    · intro c
      rw [c, lf_neg e1] at e2
      have e2 := Option.some.inj e2
      refine ⟨congrArg T2.a e2, ?_⟩
      have : -y1 % (C.p : Int) = y2 := congrArg T2.b e2
      rw [← this, ← zm_zero, zm_add, zm_mod, zm_neg]; grind
  have fin : ∀ s : Int, Rs C.p s → IsSl C x1 y1 x2 y2 s → Q ≠ -P → m_u_law_add_k4 (C.p : Int) x1 y1 x2 s = .ok (lf (P + Q)) := by
    intro s rs hs hn
    have := rs.bd
    unfold m_u_law_add_k4
    simp (decide := true) only [Res.bind_ok, need_bind, need_bd, need_p]
    rw [lf_add e1 e2 hn hs]
  by_cases hn : Q = -P
  · obtain ⟨c1, c2⟩ := dg.mpr hn
    simp (decide := true) only [Res.bind_ok, og, need_bind, need_bd, need_p, decide_eq_true c1, decide_eq_true c2, cond_true]
    rw [hn, g_add_neg]; rfl
  · have hd := mt dg.mp hn
    by_cases hx : x1 = x2
    · have c2 : ¬ (y1 + y2) % (C.p : Int) = 0 := fun z => hd ⟨hx, z⟩
      obtain ⟨f1, f2, f3⟩ := lf_ne e1 e2 hn hx
      have hr : zm C.p (2 * y1) ≠ 0 := by rw [zm_mul]; exact z_mul_ne C.pr C.two f3
      obtain ⟨i, a1, a2, a3⟩ := linv_f hC.pr (2 * y1) hr
      have := a2.bd
      simp (decide := true) only [Res.bind_ok, og, need_bind, need_bd, need_p, decide_eq_true hx, decide_eq_false c2, cond_true, cond_false, a1]
      refine fin _ (rs_mod _) ⟨fun _ => ?_, fun z => absurd (by rw [hx]) z⟩ hn
      rw [zm_mod, zm_mul, a3, zm_add, zm_mul, zm_mul]
      rfl
    · have hne : zm C.p x1 ≠ zm C.p x2 := fun e => hx (res_eq X1.1 X1.2 X2.1 X2.2 e)
      have hr : zm C.p (x2 - x1) ≠ 0 := by rw [zm_sub]; grind
      obtain ⟨i, a1, a2, a3⟩ := linv_f hC.pr (x2 - x1) hr
      have := a2.bd
      simp (decide := true) only [Res.bind_ok, og, need_bind, need_bd, need_p, decide_eq_false hx, cond_false, a1]
      refine fin _ (rs_mod _) ⟨fun z => absurd z hne, fun _ => ?_⟩ hn
      rw [zm_mod, zm_mul, a3, zm_sub, zm_sub]
end

/-! ### the curve of a law -/
theorem nosing_of {p : Nat} {a b : Int} (h : ¬ (4 * a ^ 3 + 27 * b ^ 2) % (p : Int) = 0) : NoSing (zm p a) (zm p b) := by
  intro e
  apply h
  rw [← zm_zero, Int.pow_succ, ipow2, ipow2, zm_add, zm_mul, zm_mul, zm_mul, zm_mul, zm_mul]
  have e : (4 : Zp p) * zm p a * zm p a * zm p a + 27 * zm p b * zm p b = 0 := e
  show (4 : Zp p) * _ + (27 : Zp p) * _ = 0
  grind
theorem cv_ex {p : Nat} (h : Pr p) (h5 : 5 ≤ p) {a b : Int} (A : Rs p a) (B : Rs p b) (hs : ¬ (4 * a ^ 3 + 27 * b ^ 2) % (p : Int) = 0) : ∃ C : Cv, CvP C ∧ C.p = p ∧ C.a = a ∧ C.b = b :=
  ⟨⟨p, a, b, h.pr, h5, A.1, A.2, B.1, B.2, nosing_of hs⟩, ⟨h⟩, rfl, rfl, rfl⟩
/-- the law's curve: singular, or a curve with two points -/
theorem curve_ex {p : Nat} (h : Pr p) (h5 : 5 ≤ p) (ns : Ro Int) {at_ : Int} (hat : 0 ≤ at_) : ∃ a b x1 y1 x2 y2 : Int, m_u_law_curve_and_points ns at_ (p : Int) = .ok (T4.mk a b (T2.mk x1 y1) (T2.mk x2 y2)) ∧
    (m_u_law_singular (p : Int) a b = .ok true ∨ m_u_law_singular (p : Int) a b = .ok false ∧ ∃ (C : Cv) (P Q : C.Pt), CvP C ∧ C.p = p ∧ C.a = a ∧ C.b = b ∧ m_Curve_init (p : Int) a b = .ok C.o ∧ lf P = some (T2.mk x1 y1) ∧ lf Q = some (T2.mk x2 y2)) := by
  have Pb := h.pb
  obtain ⟨a, b, x1, y1, x2, y2, cp, A, B, X1, Y1, X2, Y2, O1, O2⟩ := cap_ok h ns hat
  refine ⟨a, b, x1, y1, x2, y2, cp, ?_⟩
  have := A.bd
  have := B.bd
  by_cases hs : (4 * a ^ 3 + 27 * b ^ 2) % (p : Int) = 0
  · exact .inl (by rw [lsing_ok, decide_eq_true hs])
  · refine .inr ⟨by rw [lsing_ok, decide_eq_false hs], ?_⟩
    have ini := init_ok h h5 a b
    rw [Int.emod_eq_of_lt A.1 A.2, Int.emod_eq_of_lt B.1 B.2, if_neg hs] at ini
    obtain ⟨C, hc, e1, e2, e3⟩ := cv_ex h h5 A B hs
    subst e1 e2 e3
    obtain ⟨P, p1, _⟩ := lf_ex X1 Y1 O1
    obtain ⟨Q, q1, _⟩ := lf_ex X2 Y2 O2
    exact ⟨C, P, Q, hc, rfl, rfl, rfl, ini, p1, q1⟩

/-! ### multiples -/
theorem half_lt {n : Nat} (h : 0 < n) : n / 2 < n := Nat.div_lt_self h (by decide)
section
variable {C : Cv} [hC : CvP C]
theorem mbb_loop (k : P2 × P2 × Int → Res P2) : ∀ (fuel n : Nat) (R D : C.Pt), n < fuel → ∃ D' : C.Pt, m_multiply_by_bits_w2 C.o k fuel (lf R, lf D, (n : Int)) = k (lf (R + nsm n D), lf D', 0) := by
  intro fuel
  induction fuel with
  | zero => intro n R D h; omega
  | succ f ih =>
    intro n R D h
    rw [m_multiply_by_bits_w2]
    have t1 : (n : Int) / 2 ^ (1 : Int).toNat = ((n / 2 : Nat) : Int) := by show (n : Int) / 2 = _; omega
    have e2 : nsm n D = nsm (n % 2) D + nsm (n / 2) (D + D) := by
      have : D + D = nsm 2 D := by rw [nsm_succ, nsm_one]
      rw [this, ← nsm_mul, ← nsm_add]
      congr 1
      omega
    unfold m_multiply_by_bits_k3
    simp only [Res.bind_ok, bit1, add_ok, t1]
    by_cases hn : n = 0
    · subst hn
      exact ⟨D, by simp [nsm_zero, g_add_zero]⟩
    · rw [decide_eq_true (show (0 : Int) < (n : Int) by omega), cond_true]
      by_cases ho : (n : Int) % 2 = 1
      · obtain ⟨D', q⟩ := ih (n / 2) (R + D) (D + D) (by have := half_lt (Nat.pos_of_ne_zero hn); omega)
        rw [decide_eq_true ho, cond_true, q, e2, show n % 2 = 1 by omega, nsm_one, g_add_assoc]
        exact ⟨D', rfl⟩
      · obtain ⟨D', q⟩ := ih (n / 2) R (D + D) (by have := half_lt (Nat.pos_of_ne_zero hn); omega)
        rw [decide_eq_false ho, cond_false, q, e2, show n % 2 = 0 by omega, nsm_zero, g_zero_add]
        exact ⟨D', rfl⟩
theorem mbb_nat (n k : Nat) (P : C.Pt) : m_multiply_by_bits (k + 1) C.o none (n : Int) (lf P) = .ok (lf (nsm n P)) := by
  have h0 : (none : P2) = lf (0 : C.Pt) := rfl
  rw [m_multiply_by_bits]
  unfold m_multiply_by_bits_b
  rw [h0]
  obtain ⟨D', q⟩ := mbb_loop (C := C) m_multiply_by_bits_k4 ((n : Int).toNat + 1) n 0 P (by omega)
  simp only [Res.bind_ok, decide_eq_false (show ¬ (n : Int) < 0 by omega), cond_false, q]
  unfold m_multiply_by_bits_k4
  rw [g_zero_add]
theorem mbb_ok (n : Int) (P : C.Pt) : m_multiply_by_bits 2 C.o none n (lf P) = .ok (lf (zsm n P)) := by
  rcases Int.eq_nat_or_neg n with ⟨k, rfl | rfl⟩
  · rw [mbb_nat, zsm_nat]
  · by_cases hk : k = 0
    · subst hk
      exact mbb_nat 0 1 P
    · have hneg : decide (-(k : Int) < 0) = true := decide_eq_true (by omega)
      rw [m_multiply_by_bits]
      unfold m_multiply_by_bits_b
      simp only [Res.bind_ok, hneg, cond_true, Int.neg_neg, neg_ok, mbb_nat, zsm_neg_nat, nsm_neg]
theorem mul_ok (n : Int) (P : C.Pt) : m_Curve_multiply C.o n (lf P) = .ok (lf (zsm n P)) := by
  unfold m_Curve_multiply
  simp only [Res.bind_ok, mbb_ok]
end

theorem pow_mul_i (x y : Int) : ∀ n : Nat, (x * y) ^ n = x ^ n * y ^ n
  | 0 => by rw [Int.pow_zero, Int.pow_zero, Int.pow_zero]; rfl
  | n + 1 => by
    rw [Int.pow_succ, Int.pow_succ, Int.pow_succ, pow_mul_i x y n]; ac_rfl
theorem sq_hf {p : Nat} (h : Pr p) {x : Int} (hx : zm p x ≠ 0) : (x * x) ^ hf p % (p : Int) = 1 := by
  have f := fermatI h.pr (a := x) fun d => hx (zm_dvd.mpr d)
  have e : 2 * hf p = p - 1 := by have := h.odd; unfold hf; omega
  rw [← ipow2, ← Int.pow_mul, e]; exact f
theorem hf_mod {p : Nat} (a : Int) : (a % (p : Int)) ^ hf p % (p : Int) = a ^ hf p % p := em_pow (em_em a p) _
/-! ### counting -/
theorem compL_filter {α : Type} {t : α → Res Bool} {b : α → Bool} {xs : List α} (h : ∀ x ∈ xs, t x = .ok (b x)) : compL t (fun x => .ok x) xs = .ok (xs.filter b) := by
  induction xs with
  | nil => rfl
  | cons x r ih =>
    show (t x).bind _ = _
    rw [h x List.mem_cons_self, Res.bind_ok, ih fun y hy => h y (List.mem_cons_of_mem _ hy)]
    cases e : b x
    · rw [List.filter_cons_of_neg (by rw [e]; decide)]; rfl
    · rw [List.filter_cons_of_pos e]; rfl
/-- how many y have this square -/
def rts (p : Nat) (ys : List Nat) (r : Nat) : Int := ((ys.filter fun y => decide (y * y % p = r)).length : Int)
theorem rts_cons (p y : Nat) (ys : List Nat) (r : Nat) : rts p (ys ++ [y]) r = rts p ys r + if y * y % p = r then 1 else 0 := by
  unfold rts
  rw [List.filter_append, List.length_append]
  by_cases h : y * y % p = r
  · rw [if_pos h, List.filter_cons_of_pos (by simpa using h)]; simp
  · rw [if_neg h, List.filter_cons_of_neg (by simpa using h)]; simp
theorem map_set_range {p i : Nat} (hi : i < p) (F : Nat → Int) (v : Int) : ((List.range p).map F).set i v = (List.range p).map fun r => if i = r then v else F r := by
  apply List.ext_getElem
  · simp
  · intro j h1 h2
    rw [List.getElem_set]
    simp
theorem sum_perm {l m : List Int} (h : l.Perm m) : l.sum = m.sum := by
  induction h with
  | nil => rfl
  | cons x _ ih => rw [List.sum_cons, List.sum_cons, ih]
  | swap x y l => simp only [List.sum_cons]; omega
  | trans _ _ h1 h2 => rw [h1, h2]
theorem nodup_map_inj {α β : Type} {f : α → β} : ∀ {l : List α}, l.Nodup → (∀ x ∈ l, ∀ y ∈ l, f x = f y → x = y) → (l.map f).Nodup
  | [], _, _ => List.nodup_nil
  | x :: r, h, hf => by
    rw [List.nodup_cons] at h
    rw [List.map_cons, List.nodup_cons]
    refine ⟨fun m => ?_, nodup_map_inj h.2 fun a ha b hb => hf a (List.mem_cons_of_mem _ ha) b (List.mem_cons_of_mem _ hb)⟩
    obtain ⟨y, hy, e⟩ := List.mem_map.mp m
    have := hf y (List.mem_cons_of_mem _ hy) x List.mem_cons_self e
    subst this
    exact h.1 hy
/-- a sum over all residues, taken in another order -/
theorem sum_turn {p c : Nat} (hp : IsP p) (hc : ¬ p ∣ c) (F : Nat → Int) : ((List.range p).map fun x => F (c * x % p)).sum = ((List.range p).map F).sum := by
  have h2 := hp.1
  have e : ((List.range p).map fun x => F (c * x % p)) = ((List.range p).map fun x => c * x % p).map F := by rw [List.map_map]; rfl
  rw [e]
  refine sum_perm (List.Perm.map F (perm_of_sub _ _ ?_ ?_ (by simp)))
  · refine nodup_map_inj List.nodup_range fun x hx y hy h => ?_
    exact inj_mod hp hc (List.mem_range.mp hx) (List.mem_range.mp hy) h
  · intro x hx
    obtain ⟨y, _, rfl⟩ := List.mem_map.mp hx
    exact List.mem_range.mpr (Nat.mod_lt _ (by omega))
def cntp (p : Nat) (a b : Int) : Int := 1 + ((List.range p).map fun (x : Nat) => rts p (List.range p) (((x : Int) * x * x + a * x + b) % p).toNat).sum
theorem cp_loop {p : Nat} (hp : 0 < p) (hl : p < 65536) (k : List Int → Res Int) : ∀ (j n : Nat), n + j = p → m_count_points_l2 (p : Int) k ((pyRange 0 (p : Int)).drop n) ((List.range p).map (rts p (List.range n))) = k ((List.range p).map (rts p (List.range p))) := by
  intro j
  induction j with
  | zero =>
    intro n h
    have : n = p := by omega
    subst this
    have : (pyRange 0 (n : Int)).drop n = [] := List.drop_eq_nil_of_le (by rw [pyRange_len]; omega)
    rw [this, m_count_points_l2]
  | succ j ih =>
    intro n h
    rw [pyRange_drop (by omega), m_count_points_l2]
    have hm : (n : Int) * (n : Int) % (p : Int) = ((n * n % p : Nat) : Int) := by rw [Int.natCast_emod, Int.natCast_mul]
    have hlt : n * n % p < p := Nat.mod_lt _ hp
    have c1 : CMulX (n : Int) (n : Int) := cmulx (a := 17) (b := 17) (by omega) (by omega) (by decide)
    have hpi : (0 : Int) < (p : Int) := by omega
    have hge : (0 : Int) ≤ ((n * n % p : Nat) : Int) := by omega
    have hget : ((List.range p).map (rts p (List.range n)))[(((n * n % p : Nat) : Int)).toNat]? = some (rts p (List.range n) (n * n % p)) := by
      rw [Int.toNat_natCast, List.getElem?_map, List.getElem?_range hlt]; rfl
    simp only [Res.bind_ok, need_bind, Res.need_pos c1, Res.need_pos hpi, hm, Res.need_pos hge, hget]
    rw [Int.toNat_natCast, map_set_range hlt]
    have e : ((List.range p).map fun r => if n * n % p = r then rts p (List.range n) (n * n % p) + 1 else rts p (List.range n) r) = (List.range p).map (rts p (List.range (n + 1))) := by
      refine List.map_congr_left fun r _ => ?_
      rw [List.range_succ, rts_cons]
      by_cases c : n * n % p = r
      · rw [if_pos c, if_pos c, c]
      · rw [if_neg c, if_neg c]; omega
    rw [e]
    exact ih (n + 1) (by omega)
theorem count_ok {C : Cv} [hC : CvP C] (hl : C.p < 65536) : m_count_points C.o = .ok (cntp C.p C.a C.b) := by
  have hp := hC.pr.pos
  have h5 := C.ge
  have n1 : decide ((65536 : Int) ≤ (C.p : Int)) = false := decide_eq_false (by omega)
  have rp : RepOk [(0 : Int)].length (C.p : Int) := ⟨by omega, by omega, by simp; omega⟩
  have hr : okRange (C.p : Int) := ⟨by omega, by omega⟩
  have len : (pyRange 0 (C.p : Int)).length ≤ 16777216 := by rw [pyRange_len]; omega
  have := C.A.bd
  have := C.B.bd
  unfold m_count_points
  simp only [Res.bind_ok, n1, cond_false, Res.need_pos rp, Res.need_pos hr, rep1]
  have start : List.replicate ((C.p : Int).toNat) (0 : Int) = (List.range C.p).map (rts C.p (List.range 0)) := by
    rw [Int.toNat_natCast]
    apply List.ext_getElem
    · simp
    · intro i h1 h2; simp [rts]
  rw [start]
  have l := cp_loop (p := C.p) (by omega) hl (m_count_points_k3 C.o (C.p : Int)) C.p 0 (by omega)
  rw [List.drop_zero] at l
  rw [l]
  unfold m_count_points_k3
  simp only [Res.bind_ok, Res.need_pos hr, Res.need_pos len]
  rw [compL_map (g := fun x : Int => rts C.p (List.range C.p) ((x * x * x + C.a * x + C.b) % C.p).toNat) (fun _ _ => rfl) ?he]
  case he =>
    intro x hx
    unfold pyRange at hx
    obtain ⟨i, hi, rfl⟩ := List.mem_map.mp hx
    have hi := List.mem_range.mp hi
    have hb : Bd (0 + (i : Int)) 20 := ⟨by omega⟩
    simp (decide := true) only [Res.bind_ok, need_bind, need_bd, need_p]
    have r := rs_mod (p := C.p) ((0 + (i : Int)) * (0 + i) * (0 + i) + C.a * (0 + i) + C.b)
    refine idx_int r.1 ?_
    rw [List.getElem?_map, List.getElem?_range (by have := r.2; have := r.1; omega)]; rfl
  simp only [Res.bind_ok]
  unfold cntp pyRange
  rw [List.map_map, show ((C.p : Int) - 0).toNat = C.p by omega]
  congr 3
  refine List.map_congr_left fun i _ => ?_
  simp

/-! ### the number of roots of a residue -/
theorem filter_len {l S : List Nat} {P : Nat → Bool} (hl : l.Nodup) (hS : S.Nodup) (h : ∀ y, (y ∈ l ∧ P y = true) ↔ y ∈ S) : (l.filter P).length = S.length := by
  refine List.Perm.length_eq ?_
  rw [List.perm_ext_iff_of_nodup (hl.filter P) hS]
  intro a
  rw [List.mem_filter]
  exact h a
theorem sq_cast {p y r : Nat} : y * y % p = r ↔ ((y : Int) * y % (p : Int) = (r : Int)) := by
  rw [show (y : Int) * y % (p : Int) = ((y * y % p : Nat) : Int) by rw [Int.natCast_emod, Int.natCast_mul]]
  omega
theorem rts_val {p : Nat} (h : Pr p) {r : Nat} (hr : r < p) : rts p (List.range p) r = if r = 0 then 1 else if (r : Int) ^ hf p % (p : Int) = 1 then 2 else 0 := by
  have h3 := h.ge
  unfold rts
  by_cases h0 : r = 0
  · subst h0
    rw [if_pos rfl, filter_len (S := [0]) List.nodup_range (by simp) ?_]
    · rfl
    · intro y
      rw [List.mem_range, decide_eq_true_eq, List.mem_singleton]
      constructor
      · rintro ⟨hy, e⟩
        have d : p ∣ y * y := Nat.dvd_of_mod_eq_zero e
        have d : p ∣ y := (h.pr.dvd_mul d).elim id id
        exact Nat.eq_zero_of_dvd_of_lt d hy
      · rintro rfl
        exact ⟨by omega, by simp⟩
  · rw [if_neg h0]
    have hne : (r : Int) % (p : Int) ≠ 0 := by rw [Int.emod_eq_of_lt (by omega) (by omega)]; omega
    by_cases h1 : (r : Int) ^ hf p % (p : Int) = 1
    · obtain ⟨s, _, s0, s1, se⟩ := root_ok h h1
      rw [if_pos h1]
      rw [Int.emod_eq_of_lt (show (0 : Int) ≤ r by omega) (by omega)] at se
      have sne : s ≠ 0 := fun z => by rw [z] at se; simp at se; omega
      obtain ⟨t, rfl⟩ := Int.eq_ofNat_of_zero_le s0
      have ho := h.odd
      rw [filter_len (S := [t, p - t]) List.nodup_range (by simp; omega) ?_]
      · rfl
      · intro y
        rw [List.mem_range, decide_eq_true_eq, sq_cast]
        simp only [List.mem_cons, List.not_mem_nil, or_false]
        constructor
        · rintro ⟨hy, e⟩
          have d : (p : Int) ∣ (y : Int) * y - t * t := em_dvd (by rw [e, se])
          have d : (p : Int) ∣ ((y : Int) - t) * (y + t) := by
            rw [show ((y : Int) - t) * (y + t) = (y : Int) * y - t * t by grind]; exact d
          rcases h.pr.dvd_mulI d with d | d
          · left
            have := Int.eq_zero_of_dvd_of_natAbs_lt_natAbs d (by omega)
            omega
          · right
            obtain ⟨w, hw⟩ := d
            have : w = 1 := by
              have a1 : 0 < (p : Int) * w := by omega
              have a2 : (p : Int) * w < 2 * p := by omega
              have : 0 < w := by
                rcases Int.lt_or_le 0 w with z | z
                · exact z
                · have := Int.mul_nonpos_of_nonneg_of_nonpos (show (0 : Int) ≤ p by omega) z; omega
              have : w < 2 := by
                rcases Int.lt_or_le w 2 with z | z
                · exact z
                · have := Int.mul_le_mul_of_nonneg_left z (show (0 : Int) ≤ p by omega); omega
              omega
            subst this
            omega
        · rintro (rfl | rfl)
          · exact ⟨by omega, by rw [se]⟩
          · refine ⟨by omega, ?_⟩
            rw [show ((p - t : Nat) : Int) = (p : Int) - t by omega, show ((p : Int) - t) * (p - t) = t * t + p * (p - 2 * t) by grind, Int.add_mul_emod_self_left, se]
    · rw [if_neg h1, filter_len (S := []) List.nodup_range List.nodup_nil ?_]
      · rfl
      · intro y
        rw [List.mem_range, decide_eq_true_eq, sq_cast]
        simp only [List.not_mem_nil, iff_false]
        rintro ⟨hy, e⟩
        apply h1
        have yz : zm p (y : Int) ≠ 0 := by
          intro z
          have z : (y : Int) % p = 0 := zm_zero.mp z
          rw [Int.mul_emod, z] at e
          simp at e; omega
        have := sq_hf h yz
        rw [← hf_mod, e] at this
        exact this
theorem hf3 (p : Nat) (c r : Int) : (c * c * c * r) ^ hf p % (p : Int) = (c ^ hf p) * (c ^ hf p) * (c ^ hf p) * (r ^ hf p) % p := by
  rw [pow_mul_i, pow_mul_i, pow_mul_i]
theorem toN {p : Nat} (hp : 0 < p) (x : Int) : ((x % (p : Int)).toNat : Int) = x % p := Int.toNat_of_nonneg (Int.emod_nonneg _ (by omega))
theorem toN_lt {p : Nat} (hp : 0 < p) (x : Int) : (x % (p : Int)).toNat < p := by
  have := Int.emod_lt_of_pos x (show (0 : Int) < (p : Int) by omega)
  have := Int.emod_nonneg x (show (p : Int) ≠ 0 by omega)
  omega
theorem rts_int {p : Nat} (h : Pr p) (x : Int) : rts p (List.range p) (x % (p : Int)).toNat = if x % (p : Int) = 0 then 1 else if x ^ hf p % (p : Int) = 1 then 2 else 0 := by
  have hp : 0 < p := by have := h.ge; omega
  rw [rts_val h (toN_lt hp x), toN hp, hf_mod]
  by_cases c : x % (p : Int) = 0
  · rw [if_pos c, if_pos (by rw [c]; rfl)]
  · rw [if_neg c, if_neg (by have := toN hp x; omega)]
/-- scaled by a square: the same; by another unit: the other class -/
theorem rts_scale {p : Nat} (h : Pr p) {c : Int} (hc : zm p c ≠ 0) (x : Int) :
    (c ^ hf p % (p : Int) = 1 → rts p (List.range p) ((c * c * c * x) % (p : Int)).toNat = rts p (List.range p) (x % (p : Int)).toNat) ∧
    (c ^ hf p % (p : Int) = p - 1 → rts p (List.range p) ((c * c * c * x) % (p : Int)).toNat = 2 - rts p (List.range p) (x % (p : Int)).toNat) := by
  have h3 := h.ge
  have hz : (c * c * c * x) % (p : Int) = 0 ↔ x % (p : Int) = 0 := by
    rw [← zm_zero, ← zm_zero, zm_mul, zm_mul, zm_mul]
    constructor
    · intro e; exact z_cancel h.pr (z_mul_ne h.pr (z_mul_ne h.pr hc hc) hc) e
    · intro e; rw [e]; grind
  have half : x % (p : Int) ≠ 0 → x ^ hf p % (p : Int) = 1 ∨ x ^ hf p % (p : Int) = p - 1 := fun hx => half_pow h.pr h.odd (a := x) (fun d => hx (Int.emod_eq_zero_of_dvd d))
  constructor
  · intro h1
    have e : (c * c * c * x) ^ hf p % (p : Int) = x ^ hf p % p := by
      have h1' : c ^ hf p % (p : Int) = 1 % p := by rw [h1]; exact (Int.emod_eq_of_lt (by decide) (by omega)).symm
      rw [hf3, em_mul (em_mul (em_mul h1' h1') h1') rfl]; simp
    rw [rts_int h, rts_int h, e]
    by_cases z : x % (p : Int) = 0
    · rw [if_pos z, if_pos (hz.mpr z)]
    · rw [if_neg z, if_neg (mt hz.mp z)]
  · intro h1
    have e : (c * c * c * x) ^ hf p % (p : Int) = -(x ^ hf p) % p := by
      have h1' : c ^ hf p % (p : Int) = (-1) % p := by
        rw [h1]
        refine Int.emod_eq_emod_iff_emod_sub_eq_zero.mpr ?_ |> fun z => (Int.emod_eq_of_lt (by omega) (by omega)).symm.trans z
        rw [show (p : Int) - 1 - -1 = p by omega, Int.emod_self]
      rw [hf3, em_mul (em_mul (em_mul h1' h1') h1') rfl]
      congr 1
      omega
    rw [rts_int h, rts_int h, e]
    by_cases z : x % (p : Int) = 0
    · rw [if_pos z, if_pos (hz.mpr z)]; rfl
    · rw [if_neg z, if_neg (mt hz.mp z)]
      have en : -(x ^ hf p) % (p : Int) = (-(x ^ hf p % p)) % p := by
        rw [← zm_eq, zm_neg, zm_neg, zm_mod]
      rw [en]
      rcases half z with q | q
      · have : -(1 : Int) % (p : Int) = p - 1 := by
          rw [show -(1 : Int) = (p - 1) + p * (-1) by omega, Int.add_mul_emod_self_left, Int.emod_eq_of_lt (by omega) (by omega)]
        rw [q, this, if_neg (show ¬ (p : Int) - 1 = 1 by omega), if_pos rfl]; rfl
      · have : -((p : Int) - 1) % (p : Int) = 1 := by
          rw [show -((p : Int) - 1) = 1 + p * (-1) by omega, Int.add_mul_emod_self_left, Int.emod_eq_of_lt (by omega) (by omega)]
        rw [q, this, if_pos rfl, if_neg (show ¬ (p : Int) - 1 = 1 by omega)]; rfl
theorem cnt_turn {p : Nat} (h : Pr p) {a b a' b' : Int} {c : Nat} (hc : zm p (c : Int) ≠ 0) (ha : a' % (p : Int) = a * c * c % p) (hb : b' % (p : Int) = b * c * c * c % p) :
    cntp p a' b' = 1 + ((List.range p).map fun (x : Nat) => rts p (List.range p) (((c : Int) * c * c * ((x : Int) * x * x + a * x + b)) % p).toNat).sum := by
  unfold cntp
  have hd : ¬ p ∣ c := fun d => hc (zm_dvd.mpr (Int.natCast_dvd_natCast.mpr d))
  rw [← sum_turn h.pr hd (fun (x : Nat) => rts p (List.range p) (((x : Int) * x * x + a' * x + b') % (p : Int)).toNat)]
  congr 2
  refine List.map_congr_left fun x _ => ?_
  congr 2
  refine zm_eq.mp ?_
  have e1 : zm p a' = zm p a * zm p c * zm p c := by rw [← zm_mul, ← zm_mul]; exact zm_eq.mpr ha
  have e2 : zm p b' = zm p b * zm p c * zm p c * zm p c := by rw [← zm_mul, ← zm_mul, ← zm_mul]; exact zm_eq.mpr hb
  have e3 : zm p ((c * x % p : Nat) : Int) = zm p c * zm p x := by
    rw [Int.natCast_emod, Int.natCast_mul, zm_mod, zm_mul]
  simp only [zm_add, zm_mul, e1, e2, e3]
  clear e1 e2 e3 ha hb hc hd
  generalize zm p (c : Int) = c'
  generalize zm p (x : Int) = x'
  grind
theorem sum_sub2 (f : Nat → Int) : ∀ l : List Nat, (l.map fun x => 2 - f x).sum = 2 * l.length - (l.map f).sum
  | [] => rfl
  | x :: r => by
    rw [List.map_cons, List.sum_cons, List.map_cons, List.sum_cons, sum_sub2 f r, List.length_cons]; omega
theorem cnt_same {p : Nat} (h : Pr p) {a b a' b' : Int} {c : Nat} (hc : zm p (c : Int) ≠ 0) (ha : a' % (p : Int) = a * c * c % p) (hb : b' % (p : Int) = b * c * c * c % p) (h1 : (c : Int) ^ hf p % (p : Int) = 1) : cntp p a' b' = cntp p a b := by
  rw [cnt_turn h hc ha hb]
  unfold cntp
  congr 2
  exact List.map_congr_left fun x _ => (rts_scale h hc _).1 h1
theorem cnt_twist {p : Nat} (h : Pr p) {a b a' b' : Int} {c : Nat} (hc : zm p (c : Int) ≠ 0) (ha : a' % (p : Int) = a * c * c % p) (hb : b' % (p : Int) = b * c * c * c % p) (h1 : (c : Int) ^ hf p % (p : Int) = p - 1) : cntp p a b + cntp p a' b' = 2 * p + 2 := by
  rw [cnt_turn h hc ha hb]
  unfold cntp
  have : ((List.range p).map fun (x : Nat) => rts p (List.range p) (((c : Int) * c * c * ((x : Int) * x * x + a * x + b)) % p).toNat) = (List.range p).map fun (x : Nat) => 2 - rts p (List.range p) (((x : Int) * x * x + a * x + b) % p).toNat := List.map_congr_left fun x _ => (rts_scale h hc _).2 h1
  rw [this, sum_sub2, List.length_range]
  omega

/-! ### the law's primes -/
def pr75 (n : Nat) : Bool := decide (n < 5) || !((List.range 15).all fun j => decide (j < 2) || !decide (j < n) || !decide (n % j = 0)) || tp n
theorem pr75_ok : ((List.range 225).all pr75) = true := by decide +kernel
def lo75 (p : Nat) : Bool := decide (p < 5) || !tp p || (List.range 60).any fun g => decide (2 ≤ g) && decide (g ^ ((p - 1) / 2) % p = p - 1)
theorem lo75_ok : ((List.range 225).all lo75) = true := by decide +kernel
theorem np75 (k : Int → Res Int) (hk : ∀ d, k d = .ok 5) : ∀ (ks : List Int) (n : Nat), 5 ≤ n → n + ks.length < 224 → ∃ p : Nat, m_u_law_prime_l1 k ks (n : Int) = .ok (p : Int) ∧ tp p = true ∧ 5 ≤ p ∧ p < 225 := by
  intro ks
  induction ks with
  | nil => intro n h1 h2; exact ⟨5, by rw [m_u_law_prime_l1, hk]; rfl, by decide +kernel, by decide, by decide⟩
  | cons x r ih =>
    intro n h1 h2
    rw [List.length_cons] at h2
    have r1 : okRange (2 : Int) ∧ okRange (15 : Int) := ⟨⟨by decide, by decide⟩, ⟨by decide, by decide⟩⟩
    have len : (pyRange 2 15).length ≤ 16777216 := by rw [pyRange_len]; decide
    rw [m_u_law_prime_l1]
    simp only [Res.bind_ok, Res.need_pos r1, Res.need_pos len]
    rw [compL_filter (b := fun j => decide (j < (n : Int)) && decide ((n : Int) % j = 0)) ?hh]
    case hh =>
      intro j hj
      unfold pyRange at hj
      obtain ⟨i, hi, rfl⟩ := List.mem_map.mp hj
      rw [Res.need_pos (show (0 : Int) < 2 + (i : Int) by omega)]
      cases decide ((2 + (i : Int)) < (n : Int)) <;> rfl
    simp only [Res.bind_ok]
    by_cases c : (((pyRange 2 15).filter fun j => decide (j < (n : Int)) && decide ((n : Int) % j = 0)).length : Int) = 0
    · rw [decide_eq_true c, cond_true]
      refine ⟨n, rfl, ?_, h1, by omega⟩
      have q := List.all_eq_true.mp pr75_ok n (List.mem_range.mpr (by omega))
      unfold pr75 at q
      have hall : ((List.range 15).all fun j => decide (j < 2) || !decide (j < n) || !decide (n % j = 0)) = true := by
        rw [List.all_eq_true]
        intro j hj
        have hj := List.mem_range.mp hj
        by_cases c1 : j < 2
        · rw [decide_eq_true c1]; rfl
        · by_cases c2 : j < n
          · by_cases c3 : n % j = 0
            · exfalso
              have c : ((pyRange 2 15).filter fun j => decide (j < (n : Int)) && decide ((n : Int) % j = 0)) = [] := List.eq_nil_of_length_eq_zero (by omega)
              rw [List.filter_eq_nil_iff] at c
              refine c (j : Int) ?_ ?_
              · unfold pyRange
                exact List.mem_map.mpr ⟨j - 2, List.mem_range.mpr (by omega), by omega⟩
              · rw [decide_eq_true (show (j : Int) < (n : Int) by omega), decide_eq_true (show (n : Int) % (j : Int) = 0 by rw [← Int.natCast_emod, c3]; rfl)]; rfl
            · rw [decide_eq_false c3]; simp
          · rw [decide_eq_false c2]; simp
      rw [decide_eq_false (show ¬ n < 5 by omega), hall] at q
      exact q
    · rw [decide_eq_false c, cond_false]
      exact ih (n + 1) (by omega) (by omega)
theorem prime75 (c : Int) : ∃ p : Nat, m_u_law_prime c = .ok (p : Int) ∧ tp p = true ∧ 5 ≤ p ∧ p < 225 := by
  have hr : okRange (20 : Int) := ⟨by decide, by decide⟩
  have z0 := Int.emod_nonneg (c.natAbs : Int) (show (195 : Int) ≠ 0 by decide)
  have z1 := Int.emod_lt_of_pos (c.natAbs : Int) (show (0 : Int) < 195 by decide)
  have hl : (pyRange 0 20).length = 20 := by rw [pyRange_len]; rfl
  unfold m_u_law_prime
  simp only [Res.bind_ok, Res.need_pos hr]
  generalize (c.natAbs : Int) % 195 = z at *
  obtain ⟨n, rfl⟩ := Int.eq_ofNat_of_zero_le z0
  exact np75 m_u_law_prime_k3 (fun _ => rfl) (pyRange 0 20) (5 + n) (by omega) (by omega)
theorem low_loop {p : Nat} (h : Pr p) (k : Unit → Res Int) {q : Nat} (hq : (q : Int) ^ hf p % (p : Int) = p - 1) : ∀ ks : List Int, (∀ x ∈ ks, 0 ≤ x ∧ x < 60) → (q : Int) ∈ ks → ∃ g : Nat, m_u_law_lowest_l1 (p : Int) k ks () = .ok (g : Int) ∧ (g : Int) ^ hf p % (p : Int) = p - 1 ∧ g < 60 := by
  have h3 := h.ge
  have hlt := h.lt
  have e : ((p : Int) - 1) / 2 = ((hf p : Nat) : Int) := by unfold hf; omega
  have hl : hf p < 2 ^ 256 := by unfold hf; omega
  intro ks
  induction ks with
  | nil => intro _ m; cases m
  | cons x r ih =>
    intro h0 m
    obtain ⟨g, rfl⟩ := Int.eq_ofNat_of_zero_le (h0 x List.mem_cons_self).1
    have g60 := (h0 _ List.mem_cons_self).2
    rw [m_u_law_lowest_l1]
    simp only [Res.bind_ok, e, lpower_ok h _ _ hl]
    by_cases c : (g : Int) ^ hf p % (p : Int) = p - 1
    · rw [decide_eq_true c, cond_true]; exact ⟨g, rfl, c, by omega⟩
    · rw [decide_eq_false c, cond_false]
      refine ih (fun x hx => h0 x (List.mem_cons_of_mem _ hx)) ?_
      rcases List.mem_cons.mp m with z | z
      · exfalso; apply c; rw [← z]; exact hq
      · exact z
theorem low75 {p : Nat} (h : Pr p) (ht : tp p = true) (h5 : 5 ≤ p) (hl : p < 225) : ∃ g : Nat, m_u_law_lowest (p : Int) = .ok (g : Int) ∧ (g : Int) ^ hf p % (p : Int) = p - 1 ∧ g < 60 := by
  have r1 : okRange (2 : Int) ∧ okRange (60 : Int) := ⟨⟨by decide, by decide⟩, ⟨by decide, by decide⟩⟩
  have q := List.all_eq_true.mp lo75_ok p (List.mem_range.mpr hl)
  unfold lo75 at q
  rw [decide_eq_false (show ¬ p < 5 by omega), ht] at q
  have q : ((List.range 60).any fun g => decide (2 ≤ g) && decide (g ^ ((p - 1) / 2) % p = p - 1)) = true := q
  obtain ⟨g, hg, hh⟩ := List.any_eq_true.mp q
  have hg := List.mem_range.mp hg
  simp only [Bool.and_eq_true, decide_eq_true_eq] at hh
  have hq : (g : Int) ^ hf p % (p : Int) = p - 1 := by
    rw [show ((g : Int) ^ hf p % (p : Int)) = ((g ^ ((p - 1) / 2) % p : Nat) : Int) by rw [Int.natCast_emod, Int.natCast_pow], hh.2]
    omega
  unfold m_u_law_lowest
  simp only [Res.bind_ok, Res.need_pos r1]
  refine low_loop h _ hq (pyRange 2 60) ?_ ?_
  · intro x hx
    unfold pyRange at hx
    obtain ⟨i, hi, rfl⟩ := List.mem_map.mp hx
    have := List.mem_range.mp hi
    exact ⟨by omega, by omega⟩
  · unfold pyRange
    exact List.mem_map.mpr ⟨g - 2, List.mem_range.mpr (by omega), by omega⟩
/-! ### a scaled curve -/
section
open Lean.Grind
variable {F : Type} [Field F]
def phiv (u : F) : Mi.Pt F → Mi.Pt F
  | none => none
  | some (x, y) => some (x * u * u, y * u * u * u)
theorem phi_on {a b u : F} {P : Mi.Pt F} (h : OnC a b P) : OnC (a * u * u * u * u) (b * u * u * u * u * u * u) (phiv u P) := by
  cases P with
  | none => trivial
  | some q =>
    obtain ⟨x, y⟩ := q
    have h : y * y = x * x * x + a * x + b := h
    show y * u * u * u * (y * u * u * u) = x * u * u * (x * u * u) * (x * u * u) + a * u * u * u * u * (x * u * u) + b * u * u * u * u * u * u
    have : y * u * u * u * (y * u * u * u) = (y * y) * (u * u * u * u * u * u) := by grind
    rw [this, h]; grind
theorem phi_add {a b u : F} (h2 : (2 : F) ≠ 0) (hu : u ≠ 0) {P Q : Mi.Pt F} (hP : OnC a b P) (hQ : OnC a b Q) : padd (a * u * u * u * u) (phiv u P) (phiv u Q) = phiv u (padd a P Q) := by
  cases P with
  | none => rfl
  | some p =>
  cases Q with
  | none => rfl
  | some q =>
    obtain ⟨x1, y1⟩ := p
    obtain ⟨x2, y2⟩ := q
    have pP := phi_on (u := u) hP
    have pQ := phi_on (u := u) hQ
    have cx : x1 * u * u = x2 * u * u ↔ x1 = x2 := by
      constructor
      · intro e
        have : u * (u * (x1 - x2)) = 0 := by grind
        have := f_cancel hu (f_cancel hu this)
        grind
      · intro e; rw [e]
    have cy : y1 * u * u * u + y2 * u * u * u = 0 ↔ y1 + y2 = 0 := by
      constructor
      · intro e
        have : u * (u * (u * (y1 + y2))) = 0 := by grind
        exact f_cancel hu (f_cancel hu (f_cancel hu this))
      · intro e
        have : y1 * u * u * u + y2 * u * u * u = (y1 + y2) * (u * u * u) := by grind
        rw [this, e]; grind
    by_cases c : x1 = x2 ∧ y1 + y2 = 0
    · show padd _ (some (x1 * u * u, y1 * u * u * u)) (some (x2 * u * u, y2 * u * u * u)) = phiv u (padd a (some (x1, y1)) (some (x2, y2)))
      rw [padd_eq, padd_eq, if_pos c, if_pos ⟨cx.mpr c.1, cy.mpr c.2⟩]; rfl
    · obtain ⟨l, s, e⟩ := slp_ex h2 hP hQ c
      have s' : Slp (a * u * u * u * u) (x1 * u * u) (y1 * u * u * u) (x2 * u * u) (y2 * u * u * u) (l * u) := by
        obtain ⟨s1, s2⟩ := s
        constructor
        · have : y2 * u * u * u - y1 * u * u * u = (y2 - y1) * (u * u * u) := by grind
          rw [this, s1]; grind
        · have : l * u * (y1 * u * u * u + y2 * u * u * u) = l * (y1 + y2) * (u * u * u * u) := by grind
          rw [this, s2]; grind
      have c' : ¬ (x1 * u * u = x2 * u * u ∧ y1 * u * u * u + y2 * u * u * u = 0) := fun z => c ⟨cx.mp z.1, cy.mp z.2⟩
      rw [e]
      show padd _ (some (x1 * u * u, y1 * u * u * u)) (some (x2 * u * u, y2 * u * u * u)) = some (_, _)
      rw [padd_slp h2 pP pQ c' s']
      clear s s' e c c' pP pQ hP hQ cx cy
      congr 2 <;> grind
end
/-! ### curves made of a curve -/
theorem init_cv {C : Cv} [hC : CvP C] {A B : Int} (ha : A % (C.p : Int) = C.a) (hb : B % (C.p : Int) = C.b) : m_Curve_init (C.p : Int) A B = .ok C.o := by
  rw [init_ok hC.pr C.ge, ha, hb, if_neg]
  intro e
  apply C.ns
  have e := zm_zero.mpr e
  rw [Int.pow_succ, ipow2, ipow2, zm_add, zm_mul, zm_mul, zm_mul, zm_mul, zm_mul] at e
  have e : (4 : Zp C.p) * (zm C.p C.a * zm C.p C.a * zm C.p C.a) + (27 : Zp C.p) * (zm C.p C.b * zm C.p C.b) = 0 := e
  show (4 : Zp C.p) * zm C.p C.a * zm C.p C.a * zm C.p C.a + 27 * zm C.p C.b * zm C.p C.b = 0
  grind
theorem ns_tw {p : Nat} (hp : IsP p) {a b g : Zp p} (hg : g ≠ 0) (h : NoSing a b) : NoSing (a * g * g) (b * g * g * g) := by
  intro e
  apply h
  have e : 4 * (a * g * g) * (a * g * g) * (a * g * g) + 27 * (b * g * g * g) * (b * g * g * g) = 0 := e
  have : (g * g * g * g * g * g) * (4 * a * a * a + 27 * b * b) = 0 := by
    have t : (g * g * g * g * g * g) * (4 * a * a * a + 27 * b * b) = 4 * (a * g * g) * (a * g * g) * (a * g * g) + 27 * (b * g * g * g) * (b * g * g * g) := by grind
    rw [t, e]
  exact z_cancel hp (z_mul_ne hp (z_mul_ne hp (z_mul_ne hp (z_mul_ne hp (z_mul_ne hp hg hg) hg) hg) hg) hg) this
def Cv.twist (C : Cv) (g : Int) (hg : zm C.p g ≠ 0) : Cv := ⟨C.p, C.a * g * g % C.p, C.b * g * g * g % C.p, C.pr, C.ge, Int.emod_nonneg _ (by have := C.ge; omega), Int.emod_lt_of_pos _ (by have := C.ge; omega), Int.emod_nonneg _ (by have := C.ge; omega), Int.emod_lt_of_pos _ (by have := C.ge; omega), by
  rw [zm_mod, zm_mod, zm_mul, zm_mul, zm_mul, zm_mul, zm_mul]
  exact ns_tw C.pr hg C.ns⟩
theorem sc_a {p : Nat} (a u : Int) : zm p (a * u * u * u * u % p) = zm p a * zm p u * zm p u * zm p u * zm p u := by rw [zm_mod]; simp only [zm_mul]
theorem sc_b {p : Nat} (a u : Int) : zm p (a * u * u * u * u * u * u % p) = zm p a * zm p u * zm p u * zm p u * zm p u * zm p u * zm p u := by rw [zm_mod]; simp only [zm_mul]
theorem sc_1 {p : Nat} (a u : Zp p) : a * u * u * u * u = a * (u * u) * (u * u) := by grind
theorem sc_2 {p : Nat} (a u : Zp p) : a * u * u * u * u * u * u = a * (u * u) * (u * u) * (u * u) := by grind
def Cv.scale (C : Cv) (u : Int) (hu : zm C.p u ≠ 0) : Cv := ⟨C.p, C.a * u * u * u * u % C.p, C.b * u * u * u * u * u * u % C.p, C.pr, C.ge, Int.emod_nonneg _ (by have := C.ge; omega), Int.emod_lt_of_pos _ (by have := C.ge; omega), Int.emod_nonneg _ (by have := C.ge; omega), Int.emod_lt_of_pos _ (by have := C.ge; omega), by
  rw [sc_a, sc_b, sc_1, sc_2]
  exact ns_tw C.pr (z_mul_ne C.pr hu hu) C.ns⟩
instance (C : Cv) [h : CvP C] (g : Int) (hg : zm C.p g ≠ 0) : CvP (C.twist g hg) := ⟨h.pr⟩
instance (C : Cv) [h : CvP C] (g : Int) (hg : zm C.p g ≠ 0) : CvP (C.scale g hg) := ⟨h.pr⟩
noncomputable def phi {C : Cv} {u : Int} {hu : zm C.p u ≠ 0} (P : C.Pt) : (C.scale u hu).Pt := ⟨phiv (zm C.p u) P.v, by
  have := phi_on (u := zm C.p u) P.on
  show OnC (zm C.p (C.a * u * u * u * u % C.p)) (zm C.p (C.b * u * u * u * u * u * u % C.p)) _
  rw [sc_a, sc_b]; exact this⟩
section
variable {C : Cv} [hC : CvP C] {u : Int} {hu : zm C.p u ≠ 0}
theorem phi_addC (P Q : C.Pt) : (phi (P + Q) : (C.scale u hu).Pt) = phi P + phi Q := by
  apply Cv.ext
  have := phi_add C.two hu P.on Q.on
  show phiv (zm C.p u) (padd (zm C.p C.a) P.v Q.v) = padd (zm C.p (C.a * u * u * u * u % C.p)) (phiv (zm C.p u) P.v) (phiv (zm C.p u) Q.v)
  rw [sc_a, this]
theorem phi_0 : (phi (0 : C.Pt) : (C.scale u hu).Pt) = 0 := rfl
theorem phi_nsm (n : Nat) (P : C.Pt) : (phi (nsm n P) : (C.scale u hu).Pt) = nsm n (phi P) := by
  induction n with
  | zero => rfl
  | succ n ih => rw [nsm_succ, nsm_succ, phi_addC, ih]
theorem phi_neg (P : C.Pt) : (phi (-P) : (C.scale u hu).Pt) = -phi P := g_neg_eq (by rw [← phi_addC, g_add_neg]; rfl)
theorem phi_zsm (n : Int) (P : C.Pt) : (phi (zsm n P) : (C.scale u hu).Pt) = zsm n (phi P) := by
  rcases Int.eq_nat_or_neg n with ⟨k, rfl | rfl⟩
  · rw [zsm_nat, zsm_nat, phi_nsm]
  · rw [zsm_neg_nat, zsm_neg_nat, phi_neg, phi_nsm]
theorem moved_ok (ru : Rs C.p u) (P : C.Pt) : m_u_law_moved (C.p : Int) u (lf P) = .ok (lf (phi P : (C.scale u hu).Pt)) := by
  have := ru.bd
  unfold m_u_law_moved
  cases e : lf P with
  | none =>
    have := lf_none e
    subst this
    simp only [Res.bind_ok, toD_none2]
    rfl
  | some q =>
    obtain ⟨x, y⟩ := q
    obtain ⟨hx, hy, ho, hv⟩ := lf_some e
    have := hx.bd
    have := hy.bd
    have n1 : (toD (some (T2.mk x y))).isNon = false := rfl
    have og : optGet (some (T2.mk x y)) = .ok (T2.mk x y) := rfl
    simp (decide := true) only [Res.bind_ok, n1, cond_false, og, need_bind, need_bd, need_p]
    show _ = Res.ok (lfv (phiv (zm C.p u) P.v))
    rw [hv]
    show _ = Res.ok (some (T2.mk (zv (zm C.p x * zm C.p u * zm C.p u)) (zv (zm C.p y * zm C.p u * zm C.p u * zm C.p u))))
    rw [← zm_mul, ← zm_mul, ← zm_mul, ← zm_mul, ← zm_mul]
    rfl
theorem has_lf (P : C.Pt) : m_Curve_has C.o (toD (lf P)) = .ok true := by
  cases e : lf P with
  | none =>
    rw [toD_none2]
    unfold m_Curve_has
    rfl
  | some q =>
    obtain ⟨x, y⟩ := q
    obtain ⟨X, Y, O, v⟩ := lf_some e
    rw [toD_some2, has_pair C.A X Y, decide_eq_true O]
/-! ### what a lift tells of the class -/
theorem lifts {x : Int} (hx : Rs C.p x) : ∃ A B : P2, m_Curve_lift C.o x false = .ok A ∧ m_Curve_lift C.o x true = .ok B ∧
    (((toD A).isNon = false ∨ (toD B).isNon = false) ↔ ¬ (x * x * x + C.a * x + C.b) ^ hf C.p % (C.p : Int) = C.p - 1) ∧ (pyEq (toD A) (toD (T2.mk x (0 : Int))) = true ↔ (x * x * x + C.a * x + C.b) % (C.p : Int) = 0) := by
  have h := hC.pr
  have h3 := h.ge
  have n0 : (toD (none : P2)).isNon = true := rfl
  have n1 : ∀ r : Int, (toD (some (T2.mk x r))).isNon = false := fun _ => rfl
  have zero : ∀ z : Int, z % (C.p : Int) = 0 → z ^ hf C.p % (C.p : Int) = 0 := by
    intro z hz
    rw [← hf_mod, hz]
    have : hf C.p = (hf C.p - 1) + 1 := by have := h.odd; unfold hf; omega
    rw [this, Int.pow_succ, Int.mul_zero, Int.zero_emod]
  have some_ : ∀ r : Int, On C.p C.a C.b x r → ¬ (x * x * x + C.a * x + C.b) ^ hf C.p % (C.p : Int) = C.p - 1 := by
    intro r ho e
    have o := on_z.mp ho
    have sq : r * r % (C.p : Int) = (x * x * x + C.a * x + C.b) % C.p := by
      refine zm_eq.mp ?_
      simp only [zm_add, zm_mul]; exact o
    by_cases rz : zm C.p r = 0
    · have : (x * x * x + C.a * x + C.b) % (C.p : Int) = 0 := by rw [← sq, ← zm_zero, zm_mul, rz]; grind
      rw [zero _ this] at e; omega
    · have f := sq_hf h rz
      rw [← hf_mod, sq, hf_mod, e] at f; omega
  have eqz : ∀ r : Int, Rs C.p r → On C.p C.a C.b x r → (r = 0 ↔ (x * x * x + C.a * x + C.b) % (C.p : Int) = 0) := by
    intro r hr ho
    have o := on_z.mp ho
    have sq : r * r % (C.p : Int) = (x * x * x + C.a * x + C.b) % C.p := by
      refine zm_eq.mp ?_
      simp only [zm_add, zm_mul]; exact o
    rw [← sq]
    constructor
    · rintro rfl; simp
    · intro e
      have e := zm_zero.mpr e
      rw [zm_mul] at e
      have : zm C.p r = 0 := (z_dom h.pr e).elim id id
      have := zm_zero.mp this
      rwa [Int.emod_eq_of_lt hr.1 hr.2] at this
  rcases lift_in h (b := C.b) C.A hx false with ⟨q1, q2⟩ | ⟨r, q1, q2, q3, q4⟩
  · have q2 : (x * x * x + C.a * x + C.b) % (C.p : Int) ≠ 0 ∧ (x * x * x + C.a * x + C.b) ^ hf C.p % (C.p : Int) = C.p - 1 := by
      rcases q2 with q2 | ⟨_, q⟩
      · rw [hf_mod] at q2; exact q2
      · cases q
    have pe : pyEq (toD (none : P2)) (toD (T2.mk x (0 : Int))) = true ↔ (x * x * x + C.a * x + C.b) % (C.p : Int) = 0 := by
      constructor
      · intro e
        have := (pyEq_p2 none (some (T2.mk x 0))).mp e
        cases this
      · intro e; exact absurd e q2.1
    rcases lift_in h (b := C.b) C.A hx true with ⟨s1, s2⟩ | ⟨r, s1, s2, s3, s4⟩
    · refine ⟨_, _, q1, s1, ?_, pe⟩
      rw [n0]
      exact ⟨fun z => (by rcases z with z | z <;> cases z), fun z => absurd q2.2 z⟩
    · exact absurd q2.2 (some_ r s3)
  · obtain ⟨B, hB⟩ : ∃ B, m_Curve_lift C.o x true = .ok B := by
      rcases lift_in h (b := C.b) C.A hx true with ⟨s1, s2⟩ | ⟨r, s1, s2, s3, s4⟩
      · exact ⟨_, s1⟩
      · exact ⟨_, s1⟩
    refine ⟨_, _, q1, hB, ⟨fun _ => some_ r q3, fun _ => .inl (n1 r)⟩, ?_⟩
    rw [← eqz r q2 q3]
    constructor
    · intro e
      have := (pyEq_p2 (some (T2.mk x r)) (some (T2.mk x 0))).mp e
      have := Option.some.inj this
      exact congrArg T2.b this
    · rintro rfl
      exact (pyEq_p2 (some (T2.mk x 0)) (some (T2.mk x 0))).mpr rfl
end
/-! ### the loops -/
theorem twist_val {C : Cv} {g x : Int} : ((x * g % (C.p : Int)) * (x * g % (C.p : Int)) * (x * g % (C.p : Int)) + (C.a * g * g % (C.p : Int)) * (x * g % (C.p : Int)) + (C.b * g * g * g % (C.p : Int))) % (C.p : Int) = (g * g * g * (x * x * x + C.a * x + C.b)) % (C.p : Int) := by
  refine zm_eq.mp ?_
  simp only [zm_add, zm_mul, zm_mod]
  grind
theorem neg_hf {p : Nat} (h : Pr p) {c : Int} (h1 : c ^ hf p % (p : Int) = p - 1) (x : Int) : (c * c * c * x) ^ hf p % (p : Int) = -(x ^ hf p) % p := by
  have h3 := h.ge
  have h1' : c ^ hf p % (p : Int) = (-1) % p := by
    rw [h1]
    refine Int.emod_eq_emod_iff_emod_sub_eq_zero.mpr ?_ |> fun z => (Int.emod_eq_of_lt (by omega) (by omega)).symm.trans z
    rw [show (p : Int) - 1 - -1 = p by omega, Int.emod_self]
  rw [hf3, em_mul (em_mul (em_mul h1' h1') h1') rfl]
  congr 1
  grind
theorem neg_mod {p : Nat} (h : 5 ≤ p) {e : Int} : (e % (p : Int) = 0 → -e % (p : Int) = 0) ∧ (e % (p : Int) = 1 → -e % (p : Int) = p - 1) ∧ (e % (p : Int) = p - 1 → -e % (p : Int) = 1) := by
  have t : -e % (p : Int) = -(e % (p : Int)) % p := by rw [← zm_eq, zm_neg, zm_neg, zm_mod]
  refine ⟨fun q => ?_, fun q => ?_, fun q => ?_⟩
  · rw [t, q]; simp
  · rw [t, q]
    rw [show (-1 : Int) = (p - 1 : Int) - p by omega, Int.sub_emod_right]
    exact Int.emod_eq_of_lt (by omega) (by omega)
  · rw [t, q]
    rw [show -((p : Int) - 1) = 1 - p by omega, Int.sub_emod_right]
    exact Int.emod_eq_of_lt (by omega) (by omega)
theorem l3_ok {C : Cv} [hC : CvP C] {g : Int} {hg : zm C.p g ≠ 0} (hb : g.natAbs < 256) (h1 : g ^ hf C.p % (C.p : Int) = C.p - 1) (k : Unit → Res Bool) : ∀ ks : List Int, (∀ x ∈ ks, Rs C.p x) → m_law_l3 (C.p : Int) C.o g (C.twist g hg).o k ks () = k () := by
  have h := hC.pr
  have h5 := C.ge
  intro ks
  induction ks with
  | nil => intro _; rw [m_law_l3]
  | cons x r ih =>
    intro hx
    have ih := ih (fun y hy => hx y (List.mem_cons_of_mem _ hy))
    have hx := hx x List.mem_cons_self
    have := hx.bd
    have : Bd g 8 := ⟨hb⟩
    obtain ⟨A, B, hA, hB, e1, e2⟩ := lifts hx
    have hy : Rs (C.twist g hg).p (x * g % (C.p : Int)) := ⟨Int.emod_nonneg _ (by omega), Int.emod_lt_of_pos _ (by omega)⟩
    obtain ⟨A', B', hA', hB', e1', _⟩ := lifts hy
    have e1' : ((toD A').isNon = false ∨ (toD B').isNon = false) ↔ ¬ -((x * x * x + C.a * x + C.b) ^ hf C.p) % (C.p : Int) = C.p - 1 := by
      rw [e1', ← neg_hf h h1, ← hf_mod (p := C.p) (g * g * g * _), ← twist_val, hf_mod]
      rfl
    rw [m_law_l3]
    simp (decide := true) only [Res.bind_ok, hA, hB, need_bind, need_bd, need_p, hA', hB', Res.need_pos (⟨okq_p2 A, okq_t2 (T2.mk x 0)⟩ : (toD A).okq = true ∧ (toD (T2.mk x (0 : Int))).okq = true), ih]
    generalize pyEq (toD A) (toD (T2.mk x (0 : Int))) = zero at *
    generalize (toD A).isNon = a1 at *
    generalize (toD B).isNon = a2 at *
    generalize (toD A').isNon = a3 at *
    generalize (toD B').isNon = a4 at *
    have key : ((a1 = false ∨ a2 = false) ∧ (a3 = false ∨ a4 = false) ∧ zero = true) ∨ ((a1 = false ∨ a2 = false) ∧ ¬ (a3 = false ∨ a4 = false) ∧ zero = false) ∨ (¬ (a1 = false ∨ a2 = false) ∧ (a3 = false ∨ a4 = false) ∧ zero = false) := by
      by_cases z : (x * x * x + C.a * x + C.b) % (C.p : Int) = 0
      · have f0 : (x * x * x + C.a * x + C.b) ^ hf C.p % (C.p : Int) = 0 := by
          rw [← hf_mod, z]
          have : hf C.p = (hf C.p - 1) + 1 := by have := h.odd; unfold hf; omega
          rw [this, Int.pow_succ, Int.mul_zero, Int.zero_emod]
        refine .inl ⟨e1.mpr (by rw [f0]; omega), e1'.mpr (by rw [(neg_mod h5).1 f0]; omega), e2.mpr z⟩
      · have zf : zero = false := by
          cases q : zero
          · rfl
          · exact absurd (e2.mp q) z
        rcases half_pow h.pr h.odd (a := x * x * x + C.a * x + C.b) (fun d => z (Int.emod_eq_zero_of_dvd d)) with f | f
        · refine .inr (.inl ⟨e1.mpr (by rw [show (x * x * x + C.a * x + C.b) ^ hf C.p % (C.p : Int) = 1 from f]; omega), fun q => e1'.mp q ((neg_mod h5).2.1 f), zf⟩)
        · refine .inr (.inr ⟨fun q => e1.mp q f, e1'.mpr (by rw [(neg_mod h5).2.2 f]; omega), zf⟩)
    clear e1 e1' e2
    revert key
    cases a1 <;> cases a2 <;> cases a3 <;> cases a4 <;> cases zero <;> intro key <;> first | rfl | (exfalso; revert key; decide)
theorem l5_ok {C : Cv} [hC : CvP C] {u : Int} {hu : zm C.p u ≠ 0} (ru : Rs C.p u) {q : T2 Int Int} {Q : C.Pt} (hq : some q = lf Q) (f : Int) (k : Unit → Res Bool) : ∀ ks : List C.Pt, m_law_l5 (C.p : Int) q C.o u (C.scale u hu).o f k (ks.map lf) () = k () := by
  have ok : ∀ X Y : P2, (toD X).okq = true ∧ (toD Y).okq = true := fun X Y => ⟨okq_p2 X, okq_p2 Y⟩
  have mv : ∀ P : C.Pt, m_u_law_moved (C.p : Int) u (lf P) = .ok (lf (phi P : (C.scale u hu).Pt)) := moved_ok ru
  have pe : ∀ X : P2, pyEq (toD X) (toD X) = true := fun X => (pyEq_p2 X X).mpr rfl
  intro ks
  induction ks with
  | nil => rw [List.map_nil, m_law_l5]
  | cons P r ih =>
    rw [List.map_cons, m_law_l5]
    simp only [Res.bind_ok, hq, mv, has_lf, mul_ok, add_ok, phi_zsm, phi_addC, Res.need_pos (ok _ _), need_bind, pe, Bool.not_true, cond_false, ih]
/-! ### the law -/
theorem k8_ok {C : Cv} [hC : CvP C] (h5 : 5 ≤ C.p) (hl : C.p < 225) (ns : Ro Int) {x1 y1 x2 y2 : Int} {P Q : C.Pt} (lp : lf P = some (T2.mk x1 y1)) (lq : lf Q = some (T2.mk x2 y2)) : m_law_k8 ns (C.p : Int) C.a C.b (T2.mk x1 y1) (T2.mk x2 y2) C.o (cntp C.p C.a C.b) () = .ok true := by
  have h := hC.pr
  obtain ⟨c6, d6⟩ := cell_ex ns (show 0 ≤ (6 : Int) by decide)
  obtain ⟨c7, d7⟩ := cell_ex ns (show 0 ≤ (7 : Int) by decide)
  obtain ⟨r, er, r0, r1⟩ := residue_ok (m := (C.p : Int) - 1) (by omega) c6
  obtain ⟨u, hu'⟩ : ∃ u, u = 1 + r := ⟨_, rfl⟩
  have ru : Rs C.p u := ⟨by omega, by omega⟩
  have hu : zm C.p u ≠ 0 := by
    intro e
    have := zm_zero.mp e
    rw [Int.emod_eq_of_lt ru.1 ru.2] at this
    omega
  have ba : Bd C.a 8 := ⟨by have := C.A.1; have := C.A.2; omega⟩
  have bb : Bd C.b 8 := ⟨by have := C.B.1; have := C.B.2; omega⟩
  have bu : Bd u 8 := ⟨by have := ru.1; have := ru.2; omega⟩
  have ini : m_Curve_init (C.p : Int) (C.a * u * u * u * u) (C.b * u * u * u * u * u * u) = .ok (C.scale u hu).o := init_cv (C := C.scale u hu) rfl rfl
  have cnt : m_count_points (C.scale u hu).o = .ok (cntp C.p (C.a * u * u * u * u % C.p) (C.b * u * u * u * u * u * u % C.p)) := count_ok (C := C.scale u hu) (show C.p < 65536 by omega)
  obtain ⟨n, hn⟩ := Int.eq_ofNat_of_zero_le ru.1
  have same : cntp C.p (C.a * u * u * u * u % C.p) (C.b * u * u * u * u * u * u % C.p) = cntp C.p C.a C.b := by
    refine cnt_same h (c := n * n) ?_ ?_ ?_ ?_
    · rw [Int.natCast_mul, ← hn, zm_mul]; exact z_mul_ne h.pr hu hu
    · rw [Int.emod_emod, Int.natCast_mul, ← hn]; congr 1; grind
    · rw [Int.emod_emod, Int.natCast_mul, ← hn]; congr 1; grind
    · rw [Int.natCast_mul, ← hn]; exact sq_hf h hu
  have h0 : (none : P2) = lf (0 : C.Pt) := rfl
  unfold m_law_k8
  simp (decide := true) only [Res.bind_ok, d6, d7, er, ← hu', need_bind, need_bd, ini, cnt, same, decide_true, Bool.not_true, cond_false]
  simp only [← lp, ← lq, ladd_ok, h0]
  exact l5_ok (hu := hu) ru lq.symm _ _ [P, Q, 0, P + Q]
theorem law_true (ns : Ro Int) (hl : ns.xs.length ≤ 63) (hb : ∀ i ∈ ns.xs, Builtin.Int.intBits i ≤ 1048576) : m_law ns = .ok true := by
  clear hb
  obtain ⟨c0, d0⟩ := cell_ex ns (show 0 ≤ (0 : Int) by decide)
  obtain ⟨p, p1, ht, h5, hl⟩ := prime75 c0
  have h : Pr p := tp_ok ht
  obtain ⟨a, b, x1, y1, x2, y2, cp, hh⟩ := curve_ex h h5 ns (at_ := 1) (by decide)
  unfold m_law
  simp (decide := true) only [Res.bind_ok, d0, p1, cp]
  rcases hh with q | ⟨q, C, P, Q, hC, e1, e2, e3, ini, lp, lq⟩
  · simp only [q, Res.bind_ok, cond_true]
  · subst e1 e2 e3
    obtain ⟨g, lg, hg, g60⟩ := low75 h ht h5 hl
    have hgz : zm C.p (g : Int) ≠ 0 := by
      intro e
      have e0 := zm_zero.mp e
      have f0 : (g : Int) ^ hf C.p % (C.p : Int) = 0 := by
        rw [← hf_mod, e0]
        have : hf C.p = (hf C.p - 1) + 1 := by have := h.odd; unfold hf; omega
        rw [this, Int.pow_succ, Int.mul_zero, Int.zero_emod]
      rw [hg] at f0; omega
    have ba : Bd C.a 8 := ⟨by have := C.A.1; have := C.A.2; omega⟩
    have bb : Bd C.b 8 := ⟨by have := C.B.1; have := C.B.2; omega⟩
    have bg : Bd (g : Int) 8 := ⟨by omega⟩
    have hr : okRange (C.p : Int) := ⟨by omega, by omega⟩
    have tw : m_Curve_init (C.p : Int) (C.a * g * g) (C.b * g * g * g) = .ok (C.twist g hgz).o := init_cv (C := C.twist g hgz) rfl rfl
    have c1 : m_count_points C.o = .ok (cntp C.p C.a C.b) := count_ok (by omega)
    have c2 : m_count_points (C.twist g hgz).o = .ok (cntp C.p (C.a * g * g % C.p) (C.b * g * g * g % C.p)) := count_ok (C := C.twist g hgz) (show C.p < 65536 by omega)
    have sum := cnt_twist h (a' := C.a * g * g % C.p) (b' := C.b * g * g * g % C.p) hgz (Int.emod_emod _ _) (Int.emod_emod _ _) hg
    have hx : ∀ x ∈ pyRange 0 (C.p : Int), Rs C.p x := by
      intro x hx
      unfold pyRange at hx
      obtain ⟨i, hi, rfl⟩ := List.mem_map.mp hx
      have := List.mem_range.mp hi
      exact ⟨by omega, by omega⟩
    simp (decide := true) only [q, Res.bind_ok, cond_false, ini, lg, need_bind, need_bd, tw, c1, c2, sum, decide_true, Bool.not_true, Res.need_pos hr]
    rw [l3_ok (hg := hgz) (by omega) hg _ _ hx]
    exact k8_ok h5 hl ns lp lq
end Mi
open PySem PySem.W PySem.Calls PyProof.Rows
theorem PySem.Challenge.cw_curveseal_k75_whole_curves_and_their_twi_holds : PySem.Challenge.rw_curveseal_k75_whole_curves_and_their_twi.Holds := by
  w_on; o_law
  refine HandSHeadRun.head_any (r := OpenLaw.row PySem.Challenge.rw_curveseal_k75_whole_curves_and_their_twi) (q := view (OpenLaw.row PySem.Challenge.rw_curveseal_k75_whole_curves_and_their_twi).prog [40]) (H := Mi.hk) (ob := Mi.ob) (M := 20000) (loose := (["count_points", "multiply_by_bits", "is_whole", "is_residue", "is_residue_pair", "bezout", "inverse", "power", "square_class", "split_twos", "square_root", "_root_of_square", "_non_square", "root_with_parity", "_law_cell", "_law_is_integer", "_law_power", "_law_inverse", "_law_residue", "_law_curve_and_points", "_law_add", "_law_on", "_law_singular", "_law_prime", "_law_lowest"] : List Str) ++ (["_law_moved", "_wall", "CurveError", "OutOfRange", "NoInverse", "Refused", "Curve", "COUNT_LIMIT"] : List Str)) (d := HandSHeadRun.topDef (OpenLaw.row PySem.Challenge.rw_curveseal_k75_whole_curves_and_their_twi).prog 40) (kwd := []) Mi.ob_eq
    (by kernel_rfl) (fun s => by kernel_rfl) Mi.run_ (by kernel_rfl) (by kernel_rfl) (by kernel_rfl) (by rfl) (by first | assumption | decide +kernel) (by decide +kernel) ⟨rfl, rfl, rfl, rfl, rfl, by decide +kernel⟩ ?hw ?hc
  case hw => w_witness2
  case hc =>
    refine Mi.walk_end (l := PySem.Challenge.rw_curveseal_k75_whole_curves_and_their_twi) (n := 63) (k := 8) (x := "script") (m := Mi.m_law) rfl (by decide) (by kernel_rfl) ⟨rfl, by decide, by decide⟩ ?F (fun ns h1 h2 => Mi.law_true ⟨ns⟩ h1 h2)
    intro w mg fa h Y G hmg0
    obtain ⟨K, KX, c⟩ := Y
    have hmg : mg ("law" : PySem.Str) = some (.ref fa) := by
      have e : (HandSHeadRun.topDef (OpenLaw.row PySem.Challenge.rw_curveseal_k75_whole_curves_and_their_twi).prog 40).name = ("law" : PySem.Str) := by kernel_rfl
      rw [← e]
      exact hmg0
    have T := Mi.facts_of KX G c
    have ea := hmg.symm.trans T.g_law
    cases ea
    obtain ⟨fd, FL⟩ := T.d_law
    have b := L2.FunD.bindsA (ps := ["script"]) FL fun _ _ _ _ _ _ us hl => match us, hl with | [_], _ => rfl
    exact ⟨K, fd, KX, fun s u => b s [u] rfl, fun base _ _ => Mi.ok_law T FL⟩
