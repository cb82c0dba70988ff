import PyProof.Rows.All
import Wide.All
import OpenK.AllK
import Wide.FinOn
import HandS.Base
import HandS.Call
import HandS.List
import HandS.Comp
import HandS.Ends
import HandS.Exc
import HandS.ExcOwn
import HandS.TryOnly
import HandS.ExcIs
import HandS.IsInst
import HandS.FStr
import HandS.RaiseMore
import HandS.Words
import HandS.WordsList
import HandS.WordsExc
import HandS.WideBits
import HandS.Iter
import HandS.Text
import HandS.Evl
import HandS.Head0
import HandS.Head1
import HandS.Head2
import HandS.HeadEnd
import HandS.HeadHook1
import HandS.HeadHook2
import HandS.HeadHook4
import HandS.EndBits
import HandS.Style
import PySem.Challenge.RW_curveseal_k12_jacobian_coordinates
set_option Elab.async false
set_option linter.all false
set_option maxRecDepth 100000
set_option autoImplicit false
set_option maxHeartbeats 4000000
set_option maxHeartbeats 1000000
namespace Mi
open PySem PySem.Spec L2
open Evl (Ex)

/-! ### data -/
inductive D where
  | non | bl (b : Bool) | int (i : Int) | str (s : Str) | ty (n : String)
  | tup (xs : List D) | lst (xs : List D) | obj (c : Str) (ks : List Str) (ds : List D)

class ToD (α : Type) where
  d : α → D
abbrev toD {α : Type} [ToD α] (x : α) : D := ToD.d x
instance : ToD D := ⟨fun x => x⟩
instance : ToD Int := ⟨D.int⟩
instance : ToD Bool := ⟨D.bl⟩
instance : ToD Unit := ⟨fun _ => .non⟩
instance : ToD Str := ⟨D.str⟩
instance {α : Type} [ToD α] : ToD (List α) := ⟨fun xs => .lst (xs.map ToD.d)⟩
instance {α : Type} [ToD α] : ToD (Option α) := ⟨fun o => match o with | none => .non | some x => ToD.d x⟩
structure T1 (α : Type) where
  a : α
structure T2 (α β : Type) where
  a : α
  b : β
structure T3 (α β γ : Type) where
  a : α
  b : β
  c : γ
structure T4 (α β γ δ : Type) where
  a : α
  b : β
  c : γ
  e : δ
structure Tu (α : Type) where
  xs : List α
instance {α : Type} [ToD α] : ToD (T1 α) := ⟨fun x => .tup [ToD.d x.a]⟩
instance {α β : Type} [ToD α] [ToD β] : ToD (T2 α β) := ⟨fun x => .tup [ToD.d x.a, ToD.d x.b]⟩
instance {α β γ : Type} [ToD α] [ToD β] [ToD γ] : ToD (T3 α β γ) := ⟨fun x => .tup [ToD.d x.a, ToD.d x.b, ToD.d x.c]⟩
instance {α β γ δ : Type} [ToD α] [ToD β] [ToD γ] [ToD δ] : ToD (T4 α β γ δ) := ⟨fun x => .tup [ToD.d x.a, ToD.d x.b, ToD.d x.c, ToD.d x.e]⟩
instance {α : Type} [ToD α] : ToD (Tu α) := ⟨fun x => .tup (x.xs.map ToD.d)⟩

mutual
def Rep (K : PySem.W.Frag) (F : Hp) : D → V → Prop
  | .non, v => v = .non
  | .bl b, v => v = .bl b
  | .int i, v => v = .int i
  | .str s, v => v = .str s
  | .ty n, v => v = .ty n
  | .tup ds, v => ∃ a vs, v = .ref a ∧ SqT K F a vs ∧ Reps K F ds vs
  | .lst ds, v => ∃ a vs, v = .ref a ∧ SqL K F a vs ∧ Reps K F ds vs
  | .obj c ks ds, v => ∃ a dx vs, v = .ref a ∧ F a = some (.ins (He.ga K c) dx (ks.zip vs)) ∧ ks.length = vs.length ∧ Reps K F ds vs
def Reps (K : PySem.W.Frag) (F : Hp) : List D → List V → Prop
  | [], vs => vs = []
  | d :: ds, vs => ∃ v r, vs = v :: r ∧ Rep K F d v ∧ Reps K F ds r
end

mutual
theorem Rep.mono {K : PySem.W.Frag} {F F' : Hp} (e : Ex F F') : ∀ (d : D) (v : V), Rep K F d v → Rep K F' d v
  | .non, v, h => h
  | .bl b, v, h => h
  | .int i, v, h => h
  | .str s, v, h => h
  | .ty n, v, h => h
  | .tup ds, v, h => by
    obtain ⟨a, vs, h1, h2, h3⟩ := h
    exact ⟨a, vs, h1, Evl.ex_t e h2, Reps.mono e ds vs h3⟩
  | .lst ds, v, h => by
    obtain ⟨a, vs, h1, h2, h3⟩ := h
    exact ⟨a, vs, h1, Evl.ex_l e h2, Reps.mono e ds vs h3⟩
  | .obj c ks ds, v, h => by
    obtain ⟨a, dx, vs, h1, h2, h3, h4⟩ := h
    exact ⟨a, dx, vs, h1, e _ _ h2, h3, Reps.mono e ds vs h4⟩
theorem Reps.mono {K : PySem.W.Frag} {F F' : Hp} (e : Ex F F') : ∀ (ds : List D) (vs : List V), Reps K F ds vs → Reps K F' ds vs
  | [], vs, h => h
  | d :: ds, vs, h => by
    obtain ⟨v, r, h1, h2, h3⟩ := h
    exact ⟨v, r, h1, Rep.mono e d v h2, Reps.mono e ds r h3⟩
end
section
variable {K : PySem.W.Frag} {F F' H H' H1 : Hp}
theorem Reps.length : ∀ {ds : List D} {vs : List V}, Reps K F ds vs → ds.length = vs.length
  | [], vs, h => by rw [show vs = [] from h]; rfl
  | d :: ds, vs, h => by
    obtain ⟨v, r, rfl, _, h3⟩ := h
    simp [Reps.length h3]
theorem Reps.get : ∀ {ds : List D} {vs : List V} {i : Nat} {e : D}, Reps K F ds vs → ds[i]? = some e → ∃ v, vs[i]? = some v ∧ Rep K F e v
  | [], vs, i, e, h, q => by simp at q
  | d :: ds, vs, 0, e, h, q => by
    obtain ⟨v, r, rfl, h2, h3⟩ := h
    simp at q; subst q
    exact ⟨v, rfl, h2⟩
  | d :: ds, vs, i + 1, e, h, q => by
    obtain ⟨v, r, rfl, h2, h3⟩ := h
    simp at q
    obtain ⟨w, a, b⟩ := Reps.get h3 q
    exact ⟨w, by simpa using a, b⟩
theorem Reps.append : ∀ {ds es : List D} {vs ws : List V}, Reps K F ds vs → Reps K F es ws → Reps K F (ds ++ es) (vs ++ ws)
  | [], es, vs, ws, h, q => by rw [show vs = [] from h]; exact q
  | d :: ds, es, vs, ws, h, q => by
    obtain ⟨v, r, rfl, h2, h3⟩ := h
    exact ⟨v, r ++ ws, rfl, h2, Reps.append h3 q⟩
theorem Reps.one {e : D} {v : V} (h : Rep K F e v) : Reps K F [e] [v] := ⟨v, [], rfl, h, rfl⟩
theorem Reps.set : ∀ {ds : List D} {vs : List V} (i : Nat) {e : D} {v : V}, Reps K F ds vs → Rep K F e v → Reps K F (ds.set i e) (vs.set i v)
  | [], vs, i, e, v, h, q => by rw [show vs = [] from h]; exact rfl
  | d :: ds, vs, 0, e, v, h, q => by
    obtain ⟨w, r, rfl, h2, h3⟩ := h
    exact ⟨v, r, rfl, q, h3⟩
  | d :: ds, vs, i + 1, e, v, h, q => by
    obtain ⟨w, r, rfl, h2, h3⟩ := h
    exact ⟨w, r.set i v, rfl, h2, Reps.set i h3 q⟩
theorem Reps.drop : ∀ {ds : List D} {vs : List V} (i : Nat), Reps K F ds vs → Reps K F (ds.drop i) (vs.drop i)
  | [], vs, i, h => by rw [show vs = [] from h]; simp [Reps]
  | d :: ds, vs, 0, h => h
  | d :: ds, vs, i + 1, h => by
    obtain ⟨w, r, rfl, h2, h3⟩ := h
    exact Reps.drop i h3
theorem Reps.take : ∀ {ds : List D} {vs : List V} (i : Nat), Reps K F ds vs → Reps K F (ds.take i) (vs.take i)
  | [], vs, i, h => by rw [show vs = [] from h]; simp [Reps]
  | d :: ds, vs, 0, h => by simp [Reps]
  | d :: ds, vs, i + 1, h => by
    obtain ⟨w, r, rfl, h2, h3⟩ := h
    exact ⟨w, r.take i, rfl, h2, Reps.take i h3⟩
theorem Reps.dropLast {ds : List D} {vs : List V} (h : Reps K F ds vs) : Reps K F ds.dropLast vs.dropLast := by
  rw [List.dropLast_eq_take, List.dropLast_eq_take, h.length]
  exact Reps.take _ h
theorem Reps.reverse : ∀ {ds : List D} {vs : List V}, Reps K F ds vs → Reps K F ds.reverse vs.reverse
  | [], vs, h => by rw [show vs = [] from h]; simp [Reps]
  | d :: ds, vs, h => by
    obtain ⟨w, r, rfl, h2, h3⟩ := h
    rw [List.reverse_cons, List.reverse_cons]
    exact Reps.append (Reps.reverse h3) (Reps.one h2)
theorem Reps.ints : ∀ {ns : List Int} {vs : List V}, Reps K F (ns.map D.int) vs → vs = ns.map V.int
  | [], vs, h => h
  | n :: ns, vs, h => by
    obtain ⟨w, r, rfl, h2, h3⟩ := h
    rw [show w = V.int n from h2, Reps.ints h3]; rfl
theorem Reps.of_ints : ∀ (ns : List Int), Reps K F (ns.map D.int) (ns.map V.int)
  | [] => rfl
  | n :: ns => ⟨_, _, rfl, rfl, Reps.of_ints ns⟩
theorem Reps.bls : ∀ {ns : List Bool} {vs : List V}, Reps K F (ns.map D.bl) vs → vs = ns.map V.bl
  | [], vs, h => h
  | n :: ns, vs, h => by
    obtain ⟨w, r, rfl, h2, h3⟩ := h
    rw [show w = V.bl n from h2, Reps.bls h3]; rfl
theorem Reps.strs : ∀ {ns : List Str} {vs : List V}, Reps K F (ns.map D.str) vs → vs = ns.map V.str
  | [], vs, h => h
  | n :: ns, vs, h => by
    obtain ⟨w, r, rfl, h2, h3⟩ := h
    rw [show w = V.str n from h2, Reps.strs h3]; rfl

/-! ### how the heap goes on -/
structure Adv (F H F' H' : Hp) : Prop where
  f : Ex F F'
  h : Ex H H'
  in_ : Ex F' H'
  out : ∀ p, F p = none → H p ≠ none → F' p = none
theorem Adv.refl (e : Ex F H) : Adv F H F H := ⟨Ex.refl F, Ex.refl H, e, fun _ h _ => h⟩
theorem Adv.trans {F1 H1 F2 H2 F3 H3 : Hp} (a : Adv F1 H1 F2 H2) (b : Adv F2 H2 F3 H3) : Adv F1 H1 F3 H3 :=
  ⟨a.f.trans b.f, a.h.trans b.h, b.in_, fun p h1 h2 => b.out p (a.out p h1 h2) fun z => h2 (Evl.fresh_back a.h z)⟩
theorem none_of_ex (e : Ex F H) {p : Addr} (h : H p = none) : F p = none := Evl.fresh_back e h
theorem Adv.new {p : Addr} {o : HO} (e : Ex F H) (h : H p = none) : Adv F H (upd F p o) (upd H p o) := by
  refine ⟨Ex.new (none_of_ex e h), Ex.new h, fun a u q => ?_, fun q h1 h2 => ?_⟩
  · by_cases z : a = p
    · subst z; rw [upd_same] at q ⊢; exact q
    · rw [upd_ne z] at q ⊢; exact e a u q
  · have z : q ≠ p := fun z => h2 (by rw [z]; exact h)
    rw [upd_ne z]; exact h1
/-- a new object, not frozen -/
theorem Adv.newO {p : Addr} {o : HO} (e : Ex F H) (h : H p = none) : Adv F H F (upd H p o) :=
  ⟨Ex.refl F, Ex.new h, fun a u q => (Ex.new h) a u (e a u q), fun _ h1 _ => h1⟩
end

/-! ### what a def gives -/
inductive Res (α : Type) where
  | ok (x : α) | exc (c : Str) | stuck
namespace Res
def bind {α β : Type} : Res α → (α → Res β) → Res β
  | .ok x, f => f x
  | .exc c, _ => .exc c
  | .stuck, _ => .stuck
theorem bind_ok {α β : Type} (x : α) (f : α → Res β) : (Res.ok x).bind f = f x := rfl
theorem bind_exc {α β : Type} (c : Str) (f : α → Res β) : (Res.exc c : Res α).bind f = .exc c := rfl
theorem bind_stuck {α β : Type} (f : α → Res β) : (Res.stuck : Res α).bind f = .stuck := rfl
theorem bind_assoc {α β γ : Type} (m : Res α) (f : α → Res β) (g : β → Res γ) : (m.bind f).bind g = m.bind fun x => (f x).bind g := by
  cases m <;> rfl
theorem bind_pure {α : Type} (m : Res α) : m.bind Res.ok = m := by cases m <;> rfl
/-- a condition that must hold -/
@[irreducible] noncomputable def need {α : Type} (p : Prop) (m : Res α) : Res α := @ite _ p (Classical.propDecidable p) m .stuck
theorem need_pos {α : Type} {p : Prop} {m : Res α} (h : p) : need p m = m := by unfold need; exact if_pos h
theorem need_neg {α : Type} {p : Prop} {m : Res α} (h : ¬ p) : need p m = .stuck := by unfold need; exact if_neg h
def map {α β : Type} (f : α → β) (m : Res α) : Res β := m.bind fun x => .ok (f x)
end Res

/-! ### slots -/
inductive Sk where
  | im (e : D) | ow (xs : List D) | raw (v : V) | oi (p : Option Addr) (c : Str) (ks : List Str) (ds : List D)
/-- what only this frame knows -/
def Sk.own : Sk → Bool
  | .ow _ => true
  | .oi _ _ _ _ => true
  | _ => false
abbrev En := List (Option Sk)
def SkOk (K : PySem.W.Frag) (H0 F H : Hp) : Sk → V → Prop
  | .im e, v => Rep K F e v
  | .ow xs, v => ∃ p vs, v = .ref p ∧ H0 p = none ∧ F p = none ∧ H p = some (.lst vs) ∧ Reps K F xs vs
  | .raw w, v => v = w
  | .oi pp c ks ds, v => ∃ p dx vs, v = .ref p ∧ H0 p = none ∧ F p = none ∧ H p = some (.ins (He.ga K c) dx (ks.zip vs)) ∧ ks.length = vs.length ∧ Reps K F ds vs ∧ ∀ a, pp = some a → p = a
structure Sl (K : PySem.W.Frag) (F0 H0 F H : Hp) (σ : L2.St) (env : En) : Prop where
  adv : Adv F0 H0 F H
  slot : ∀ (i : Nat) (sk : Sk), env[i]? = some (some sk) → ∃ v, σ[i]? = some (some v) ∧ SkOk K H0 F H sk v
  dis : ∀ (i j : Nat) (sk sk' : Sk) (p : Addr), i ≠ j → env[i]? = some (some sk) → env[j]? = some (some sk') → sk.own = true → sk'.own = true → σ[i]? = some (some (.ref p)) → σ[j]? ≠ some (some (.ref p))
  len : σ.length = env.length
section
variable {K : PySem.W.Frag} {F0 H0 F H F' H' : Hp} {σ : L2.St} {env : En}
theorem Sl.ex (S : Sl K F0 H0 F H σ env) : Ex F H := S.adv.in_
theorem SkOk.adv {sk : Sk} {v : V} (a : Adv F H F' H') (h : SkOk K H0 F H sk v) : SkOk K H0 F' H' sk v := by
  cases sk with
  | im e => exact Rep.mono a.f _ _ h
  | ow xs =>
    obtain ⟨p, vs, e1, e2, e3, e4, e5⟩ := h
    exact ⟨p, vs, e1, e2, a.out p e3 (by rw [e4]; simp), a.h _ _ e4, Reps.mono a.f _ _ e5⟩
  | raw w => exact h
  | oi pp c ks ds =>
    obtain ⟨p, dx, vs, e1, e2, e3, e4, e5, e6, e7⟩ := h
    exact ⟨p, dx, vs, e1, e2, a.out p e3 (by rw [e4]; simp), a.h _ _ e4, e5, Reps.mono a.f _ _ e6, e7⟩
theorem SkOk.at {sk : Sk} {v : V} (ho : sk.own = true) (h : SkOk K H0 F H sk v) : ∃ p o, v = .ref p ∧ H0 p = none ∧ F p = none ∧ H p = some o := by
  cases sk with
  | im e => cases ho
  | raw w => cases ho
  | ow xs =>
    obtain ⟨p, vs, e1, e2, e3, e4, e5⟩ := h
    exact ⟨p, _, e1, e2, e3, e4⟩
  | oi pp c ks ds =>
    obtain ⟨p, dx, vs, e1, e2, e3, e4, e5, e6, e7⟩ := h
    exact ⟨p, _, e1, e2, e3, e4⟩
theorem SkOk.updH {sk : Sk} {v : V} {p : Addr} {o : HO} (hn : sk.own = true → v ≠ .ref p) (h : SkOk K H0 F H sk v) : SkOk K H0 F (upd H p o) sk v := by
  cases sk with
  | im e => exact h
  | raw w => exact h
  | ow xs =>
    obtain ⟨q, vs, e1, e2, e3, e4, e5⟩ := h
    have hne : q ≠ p := fun z => hn rfl (by rw [e1, z])
    exact ⟨q, vs, e1, e2, e3, by rw [upd_ne hne]; exact e4, e5⟩
  | oi pp c ks ds =>
    obtain ⟨q, dx, vs, e1, e2, e3, e4, e5, e6, e7⟩ := h
    have hne : q ≠ p := fun z => hn rfl (by rw [e1, z])
    exact ⟨q, dx, vs, e1, e2, e3, by rw [upd_ne hne]; exact e4, e5, e6, e7⟩
theorem SkOk.updF {sk : Sk} {v : V} {p : Addr} {o : HO} (hf : F p = none) (hn : sk.own = true → v ≠ .ref p) (h : SkOk K H0 F H sk v) : SkOk K H0 (upd F p o) H sk v := by
  have ad : Ex F (upd F p o) := Ex.new hf
  cases sk with
  | im e => exact Rep.mono ad _ _ h
  | raw w => exact h
  | ow xs =>
    obtain ⟨q, vs, e1, e2, e3, e4, e5⟩ := h
    have hne : q ≠ p := fun z => hn rfl (by rw [e1, z])
    exact ⟨q, vs, e1, e2, by rw [upd_ne hne]; exact e3, e4, Reps.mono ad _ _ e5⟩
  | oi pp c ks ds =>
    obtain ⟨q, dx, vs, e1, e2, e3, e4, e5, e6, e7⟩ := h
    have hne : q ≠ p := fun z => hn rfl (by rw [e1, z])
    exact ⟨q, dx, vs, e1, e2, by rw [upd_ne hne]; exact e3, e4, e5, Reps.mono ad _ _ e6, e7⟩
theorem Sl.step (S : Sl K F0 H0 F H σ env) (a : Adv F H F' H') : Sl K F0 H0 F' H' σ env := by
  refine ⟨S.adv.trans a, fun i sk e => ?_, S.dis, S.len⟩
  obtain ⟨v, h1, h2⟩ := S.slot i sk e
  exact ⟨v, h1, h2.adv a⟩
theorem set_get {α : Type} {l : List α} {i j : Nat} {x y : α} (h : (l.set i x)[j]? = some y) : (i = j ∧ x = y) ∨ (i ≠ j ∧ l[j]? = some y) := by
  rw [List.getElem?_set] at h
  by_cases e : i = j
  · rw [if_pos e] at h
    split at h
    · exact .inl ⟨e, Option.some.inj h⟩
    · cases h
  · rw [if_neg e] at h
    exact .inr ⟨e, h⟩
theorem set_len {α : Type} {l : List α} {i : Nat} {x y : α} (h : (l.set i x)[i]? = some y) : i < l.length := by
  have h := (List.getElem?_eq_some_iff.mp h).1
  rwa [List.length_set] at h
theorem Sl.setIm (S : Sl K F0 H0 F H σ env) {i : Nat} {e : D} {v : V} (r : Rep K F e v) : Sl K F0 H0 F H (σ.set i (some v)) (env.set i (some (.im e))) := by
  refine ⟨S.adv, fun j sk q => ?_, fun j k sk sk' p hjk e1 e2 o1 o2 h1 => ?_, by rw [List.length_set, List.length_set]; exact S.len⟩
  · rcases set_get q with ⟨rfl, z⟩ | ⟨z, q⟩
    · cases z
      refine ⟨v, ?_, r⟩
      have hi : i < env.length := set_len q
      rw [List.getElem?_set_self (by rw [S.len]; exact hi)]
    · obtain ⟨w, h1, h2⟩ := S.slot j sk q
      exact ⟨w, by rw [List.getElem?_set_ne z]; exact h1, h2⟩
  · rcases set_get e1 with ⟨_, z⟩ | ⟨z1, e1⟩
    · cases z; cases o1
    rcases set_get e2 with ⟨_, z⟩ | ⟨z2, e2⟩
    · cases z; cases o2
    rw [List.getElem?_set_ne z1] at h1
    rw [List.getElem?_set_ne z2]
    exact S.dis j k sk sk' p hjk e1 e2 o1 o2 h1
/-- a new owned object -/
theorem Sl.setOwn (S : Sl K F0 H0 F H σ env) {i : Nat} {p : Addr} {sk : Sk} (hs : SkOk K H0 F H sk (.ref p)) (hn : ∀ (j : Nat) (sk' : Sk), env[j]? = some (some sk') → sk'.own = true → σ[j]? ≠ some (some (V.ref p))) :
    Sl K F0 H0 F H (σ.set i (some (.ref p))) (env.set i (some sk)) := by
  refine ⟨S.adv, fun j sk q => ?_, fun j k sk1 sk2 p' hjk e1 e2 o1 o2 h1 => ?_, by rw [List.length_set, List.length_set]; exact S.len⟩
  · rcases set_get q with ⟨rfl, z⟩ | ⟨z, q⟩
    · cases z
      refine ⟨_, ?_, hs⟩
      have hi : i < env.length := set_len q
      rw [List.getElem?_set_self (by rw [S.len]; exact hi)]
    · obtain ⟨w, h1, h2⟩ := S.slot j sk q
      exact ⟨w, by rw [List.getElem?_set_ne z]; exact h1, h2⟩
  · rcases set_get e1 with ⟨z0, z⟩ | ⟨z1, e1⟩
    · rcases set_get e2 with ⟨z2, _⟩ | ⟨z2, e2⟩
      · exact absurd (z0.symm.trans z2) hjk
      · subst z0
        rw [List.getElem?_set_ne z2]
        have hi : i < σ.length := set_len h1
        rw [List.getElem?_set_self hi] at h1
        cases h1
        exact hn k sk2 e2 o2
    · rw [List.getElem?_set_ne z1] at h1
      rcases set_get e2 with ⟨z2, z⟩ | ⟨z2, e2⟩
      · subst z2
        intro q
        have hi : i < σ.length := set_len q
        rw [List.getElem?_set_self hi] at q
        cases q
        exact hn j sk1 e1 o1 h1
      · rw [List.getElem?_set_ne z2]
        exact S.dis j k sk1 sk2 p' hjk e1 e2 o1 o2 h1
theorem Sl.setOw (S : Sl K F0 H0 F H σ env) {i : Nat} {p : Addr} {xs : List D} {vs : List V} (h0 : H0 p = none) (hf : F p = none) (hp : H p = some (.lst vs)) (hn : ∀ (j : Nat) (sk' : Sk), env[j]? = some (some sk') → sk'.own = true → σ[j]? ≠ some (some (V.ref p))) (r : Reps K F xs vs) :
    Sl K F0 H0 F H (σ.set i (some (.ref p))) (env.set i (some (.ow xs))) := S.setOwn ⟨p, vs, rfl, h0, hf, hp, r⟩ hn
/-- an owned object changes -/
theorem Sl.chgO (S : Sl K F0 H0 F H σ env) {i : Nat} {p : Addr} {sk sk' : Sk} {o : HO} (e : env[i]? = some (some sk)) (ho : sk.own = true) (hs : σ[i]? = some (some (.ref p))) (hp : F p = none) (h0 : H0 p = none) (hk : SkOk K H0 F (upd H p o) sk' (.ref p)) :
    Sl K F0 H0 F (upd H p o) σ (env.set i (some sk')) := by
  refine ⟨⟨S.adv.f, fun a u q => ?_, fun a u q => ?_, S.adv.out⟩, fun j sk q => ?_, fun j k sk1 sk2 p' hjk e1 e2 o1 o2 h1 => ?_, by rw [List.length_set]; exact S.len⟩
  · rw [upd_ne (ne_of_none q h0)]; exact S.adv.h a u q
  · rw [upd_ne (ne_of_none q hp)]; exact S.adv.in_ a u q
  · rcases set_get q with ⟨rfl, z⟩ | ⟨z, q⟩
    · cases z
      exact ⟨_, hs, hk⟩
    · obtain ⟨w, h1, h2⟩ := S.slot j sk q
      exact ⟨w, h1, h2.updH fun o2 zz => S.dis i j _ _ p z e q ho o2 hs (by rw [h1, zz])⟩
  · have own : ∀ {j : Nat} {s : Sk}, (env.set i (some sk'))[j]? = some (some s) → s.own = true → ∃ s', env[j]? = some (some s') ∧ s'.own = true := by
      intro j s q o
      rcases set_get q with ⟨rfl, _⟩ | ⟨_, q⟩
      · exact ⟨_, e, ho⟩
      · exact ⟨_, q, o⟩
    obtain ⟨_, q1, r1⟩ := own e1 o1
    obtain ⟨_, q2, r2⟩ := own e2 o2
    exact S.dis j k _ _ p' hjk q1 q2 r1 r2 h1
theorem Sl.chg (S : Sl K F0 H0 F H σ env) {i : Nat} {p : Addr} {xs ys : List D} {ws : List V} (e : env[i]? = some (some (.ow xs))) (hs : σ[i]? = some (some (.ref p))) (hp : F p = none) (h0 : H0 p = none) (r : Reps K F ys ws) :
    Sl K F0 H0 F (upd H p (.lst ws)) σ (env.set i (some (.ow ys))) := S.chgO e rfl hs hp h0 ⟨p, ws, rfl, h0, hp, upd_same, r⟩
/-- an owned object is frozen -/
theorem Sl.freezeO (S : Sl K F0 H0 F H σ env) {i : Nat} {sk : Sk} {d : D} (e : env[i]? = some (some sk)) (ho : sk.own = true) (hd : ∀ p o, SkOk K H0 F H sk (.ref p) → H p = some o → F p = none → Rep K (upd F p o) d (.ref p)) : ∃ F', Ex F F' ∧ Sl K F0 H0 F' H σ (env.set i (some (.im d))) := by
  obtain ⟨v, hs, hk⟩ := S.slot i _ e
  obtain ⟨p, o, rfl, h0, hf, hp⟩ := hk.at ho
  have ad : Ex F (upd F p o) := Ex.new hf
  have inn : Ex (upd F p o) H := fun a u q => by
    by_cases z : a = p
    · subst z; rw [upd_same] at q; cases q; exact hp
    · rw [upd_ne z] at q; exact S.ex a u q
  refine ⟨upd F p o, ad, ⟨⟨S.adv.f.trans ad, S.adv.h, inn, fun a h1 h2 => ?_⟩, fun j sk q => ?_, fun j k sk1 sk2 p' hjk e1 e2 o1 o2 h1 => ?_, by rw [List.length_set]; exact S.len⟩⟩
  · have z : a ≠ p := fun z => h2 (by rw [z]; exact h0)
    rw [upd_ne z]; exact S.adv.out a h1 h2
  · rcases set_get q with ⟨rfl, z⟩ | ⟨z, q⟩
    · cases z
      exact ⟨_, hs, hd p o hk hp hf⟩
    · obtain ⟨w, h1, h2⟩ := S.slot j sk q
      exact ⟨w, h1, h2.updF hf fun o2 zz => S.dis i j _ _ p z e q ho o2 hs (by rw [h1, zz])⟩
  · have own : ∀ {j : Nat} {s : Sk}, (env.set i (some (.im d)))[j]? = some (some s) → s.own = true → env[j]? = some (some s) := by
      intro j s q o
      rcases set_get q with ⟨rfl, z⟩ | ⟨_, q⟩
      · cases z; cases o
      · exact q
    exact S.dis j k _ _ p' hjk (own e1 o1) (own e2 o2) o1 o2 h1
theorem Sl.freeze (S : Sl K F0 H0 F H σ env) {i : Nat} {xs : List D} (e : env[i]? = some (some (.ow xs))) : ∃ F', Ex F F' ∧ Sl K F0 H0 F' H σ (env.set i (some (.im (.lst xs)))) :=
  S.freezeO e rfl fun p o h hp hf => by
    obtain ⟨q, vs, e1, _, _, e4, e5⟩ := h
    cases e1
    rw [hp] at e4; cases e4
    exact ⟨_, vs, rfl, .inl (.inl upd_same), Reps.mono (Ex.new hf) _ _ e5⟩
theorem Sl.freezeI (S : Sl K F0 H0 F H σ env) {i : Nat} {pp : Option Addr} {c : Str} {ks : List Str} {ds : List D} (e : env[i]? = some (some (.oi pp c ks ds))) : ∃ F', Ex F F' ∧ Sl K F0 H0 F' H σ (env.set i (some (.im (.obj c ks ds)))) :=
  S.freezeO e rfl fun p o h hp hf => by
    obtain ⟨q, dx, vs, e1, _, _, e4, e5, e6, _⟩ := h
    cases e1
    rw [hp] at e4; cases e4
    exact ⟨_, dx, vs, rfl, upd_same, e5, Reps.mono (Ex.new hf) _ _ e6⟩
end
end Mi
set_option maxHeartbeats 1000000
namespace Mi
open PySem PySem.Spec L2
open Evl (Ex)

class ToDs (β : Type) where
  ds : β → List D
instance : ToDs Unit := ⟨fun _ => []⟩
instance {α β : Type} [ToD α] [ToDs β] : ToDs (α × β) := ⟨fun p => ToD.d p.1 :: ToDs.ds p.2⟩

/-! ### what follows a value -/
section
variable (K : PySem.W.Frag) (W : WX) (F H : Hp) (σ : L2.St)
def KE {α : Type} [ToD α] (Q : VK) : Res α → Prop
  | .ok x => ∀ v F' H', Adv F H F' H' → Rep K F' (toD x) v → Q v H'
  | .exc c => ∀ F' H', Adv F H F' H' → W (.ref (He.ga K c)) none σ H'
  | .stuck => False
def KA {β : Type} [ToDs β] (Q : List V → Hp → Prop) : Res β → Prop
  | .ok x => ∀ vs F' H', Adv F H F' H' → Reps K F' (ToDs.ds x) vs → Q vs H'
  | .exc c => ∀ F' H', Adv F H F' H' → W (.ref (He.ga K c)) none σ H'
  | .stuck => False
def KT (Q : Bool → Hp → Prop) : Res Bool → Prop
  | .ok b => ∀ F' H', Adv F H F' H' → Q b H'
  | .exc c => ∀ F' H', Adv F H F' H' → W (.ref (He.ga K c)) none σ H'
  | .stuck => False
def KN {α : Type} [ToD α] (Q : VK) : Res (List α) → Prop
  | .ok xs => ∀ p vs F' H', Adv F H F' H' → H p = none → F' p = none → H' p = some (.lst vs) → Reps K F' (xs.map toD) vs → Q (.ref p) H'
  | .exc c => ∀ F' H', Adv F H F' H' → W (.ref (He.ga K c)) none σ H'
  | .stuck => False
end
def EvX (K : PySem.W.Frag) (W : WX) (env : En) (te : TE) {α : Type} [ToD α] (m : Res α) : Prop :=
  ∀ F0 H0 F H σ Q, Sl K F0 H0 F H σ env → KE K W F H σ Q m → te σ H Q
def EvA (K : PySem.W.Frag) (W : WX) (env : En) (ta : TA) {β : Type} [ToDs β] (m : Res β) : Prop :=
  ∀ F0 H0 F H σ Q, Sl K F0 H0 F H σ env → KA K W F H σ Q m → ta σ H Q
def EvT (K : PySem.W.Frag) (W : WX) (env : En) (tt : TT) (m : Res Bool) : Prop :=
  ∀ F0 H0 F H σ Q, Sl K F0 H0 F H σ env → KT K W F H σ Q m → tt σ H Q
def EvN (K : PySem.W.Frag) (W : WX) (env : En) (te : TE) {α : Type} [ToD α] (m : Res (List α)) : Prop :=
  ∀ F0 H0 F H σ Q, Sl K F0 H0 F H σ env → KN K W F H σ Q m → te σ H Q

section
variable {K : PySem.W.Frag} {W : WX} {F H F' H' : Hp} {σ : L2.St} {env : En} {α β γ τ : Type} [ToD α] [ToD β] [ToD γ] [ToD τ] {ta tb te tc : TE} {tt tu : TT} {r : R2}

/-- from what follows a whole to what follows its first part -/
theorem KE.cut {Q : VK} {Q1 : VK} {m : Res α} {f : α → Res β} (ex : Ex F H) (h : KE K W F H σ Q (m.bind f))
    (k : ∀ x v F' H', m = .ok x → Adv F H F' H' → Rep K F' (toD x) v → KE K W F' H' σ Q (f x) → Q1 v H') : KE K W F H σ Q1 m := by
  cases m with
  | ok x =>
    intro v F1 H1 a r
    refine k x v F1 H1 rfl a r ?_
    have h : KE K W F H σ Q (f x) := h
    revert h
    generalize f x = y
    intro h
    cases y with
    | ok y => exact fun v F2 H2 b q => h v F2 H2 (a.trans b) q
    | exc c => exact fun F2 H2 b => h F2 H2 (a.trans b)
    | stuck => exact h.elim
  | exc c => exact h
  | stuck => exact h.elim
theorem KE.adv {Q : VK} {m : Res β} (a : Adv F H F' H') (h : KE K W F H σ Q m) : KE K W F' H' σ Q m := by
  cases m with
  | ok y => exact fun v F2 H2 b q => h v F2 H2 (a.trans b) q
  | exc c => exact fun F2 H2 b => h F2 H2 (a.trans b)
  | stuck => exact h.elim
theorem KT.adv {Q : Bool → Hp → Prop} {m : Res Bool} (a : Adv F H F' H') (h : KT K W F H σ Q m) : KT K W F' H' σ Q m := by
  cases m with
  | ok y => exact fun F2 H2 b => h F2 H2 (a.trans b)
  | exc c => exact fun F2 H2 b => h F2 H2 (a.trans b)
  | stuck => exact h.elim
theorem KA.adv {δ : Type} [ToDs δ] {Q : List V → Hp → Prop} {m : Res δ} (a : Adv F H F' H') (h : KA K W F H σ Q m) : KA K W F' H' σ Q m := by
  cases m with
  | ok y => exact fun v F2 H2 b q => h v F2 H2 (a.trans b) q
  | exc c => exact fun F2 H2 b => h F2 H2 (a.trans b)
  | stuck => exact h.elim

/-- general: te then a use of its value -/
theorem use {Q Q1 : VK} {m : Res α} {F0 H0 : Hp} (hv : EvX K W env te m) (S : Sl K F0 H0 F H σ env)
    (hx : ∀ c, m = .exc c → ∀ F' H', Adv F H F' H' → W (.ref (He.ga K c)) none σ H') (hs : m ≠ .stuck)
    (k : ∀ x v F' H', m = .ok x → Adv F H F' H' → Rep K F' (toD x) v → Q1 v H') : te σ H Q1 := by
  refine hv F0 H0 F H σ Q1 S ?_
  cases m with
  | ok x => exact fun v F' H' a q => k x v F' H' rfl a q
  | exc c => exact hx c rfl
  | stuck => exact hs rfl

/-! ### names and constants -/
theorem ev_var {i : Nat} {x : α} (h : env[i]? = some (some (.im (toD x)))) : EvX K W env (tVar i) (.ok x) := fun F0 H0 F H σ Q S k => by
  obtain ⟨v, e, q⟩ := S.slot i _ h
  exact ⟨v, e, k v F H (Adv.refl S.ex) q⟩
theorem ev_int {i : Int} : EvX K W env (tC (.int i)) (.ok i) := fun F0 H0 F H σ Q S k => k _ F H (Adv.refl S.ex) rfl
theorem ev_bl {b : Bool} : EvX K W env (tC (.bl b)) (.ok b) := fun F0 H0 F H σ Q S k => k _ F H (Adv.refl S.ex) rfl
theorem ev_str {x : Str} : EvX K W env (tC (.str x)) (.ok x) := fun F0 H0 F H σ Q S k => k _ F H (Adv.refl S.ex) rfl
theorem ev_non : EvX K W env (tC .non) (.ok ()) := fun F0 H0 F H σ Q S k => k _ F H (Adv.refl S.ex) rfl
theorem ev_noneO : EvX K W env (tC .non) (.ok (none : Option α)) := fun F0 H0 F H σ Q S k => k _ F H (Adv.refl S.ex) rfl
theorem ev_tyc {n : String} : EvX K W env (tC (.ty n)) (.ok (D.ty n)) := fun F0 H0 F H σ Q S k => k _ F H (Adv.refl S.ex) rfl
/-- the same value in another type -/
theorem ev_as {m : Res α} {m' : Res β} (h : EvX K W env te m) (f : α → β) (e : ∀ x, toD (f x) = toD x) (em : m.bind (fun x => .ok (f x)) = m') : EvX K W env te m' := fun F0 H0 F H σ Q S k => by
  refine h F0 H0 F H σ Q S ?_
  subst em
  cases m with
  | ok x => intro v F' H' a q; exact k v F' H' a (by rw [e]; exact q)
  | exc c => exact k
  | stuck => exact k.elim

/-! ### operators -/
def OpX (K : PySem.W.Frag) (r : R2) (f : α → β → Res γ) : Prop := ∀ (F H : Hp) (x : α) (y : β) (v u : V) (Q : VK), Ex F H → Rep K F (toD x) v → Rep K F (toD y) u →
  KE K (fun _ _ _ _ => False) F H [] Q (f x y) → r v u H Q
theorem KE.exc_false {Q : VK} {c : Str} (h : KE K (fun _ _ _ _ => False) F H [] Q (.exc c : Res α)) (e : Ex F H) : False := h F H (Adv.refl e)
/-- operators let nothing out -/
def Mild (f : α → β → Res γ) : Prop := ∀ x y c, f x y ≠ .exc c
theorem KE.mild {Q : VK} {m : Res γ} (hm : ∀ c, m ≠ .exc c) (h : KE K W F H σ Q m) : KE K (fun _ _ _ _ => False) F H [] Q m := by
  cases m with
  | ok x => exact h
  | exc c => exact absurd rfl (hm c)
  | stuck => exact h.elim
theorem ev_op {m1 : Res α} {m2 : Res β} {f : α → β → Res γ} (ho : OpX K r f) (hm : Mild f) (ha : EvX K W env ta m1) (hb : EvX K W env tb m2) :
    EvX K W env (tOp r ta tb) (m1.bind fun x => m2.bind fun y => f x y) := fun F0 H0 F H σ Q S k => by
  refine ha F0 H0 F H σ _ S (KE.cut S.ex k fun x v F1 H1 e1 a1 r1 k1 => ?_)
  refine hb F0 H0 F1 H1 σ _ (S.step a1) (KE.cut a1.in_ k1 fun y u F2 H2 e2 a2 r2 k2 => ?_)
  exact ho F2 H2 x y v u Q a2.in_ (Rep.mono a2.f _ _ r1) r2 (k2.mild (hm x y))
theorem mild_ok {g : α → β → γ} : Mild (fun x y => Res.ok (g x y)) := fun _ _ _ h => nomatch h
theorem mild_need {p : α → β → Prop} {g : α → β → γ} : Mild (fun x y => Res.need (p x y) (.ok (g x y))) := fun x y c h => by
  by_cases q : p x y
  · have h : Res.need (p x y) (.ok (g x y)) = .exc c := h
    rw [Res.need_pos q] at h; cases h
  · have h : Res.need (p x y) (.ok (g x y)) = .exc c := h
    rw [Res.need_neg q] at h; cases h
theorem opx_I0 {g : Int → Int → Int} : OpX K (rI0 fun i j => .int (g i j)) (fun i j => .ok (g i j)) := fun F H x y v u Q e h1 h2 k =>
  ⟨x, y, h1, h2, k _ F H (Adv.refl e) rfl⟩
theorem opx_B0 {g : Int → Int → Bool} : OpX K (rI0 fun i j => .bl (g i j)) (fun i j => .ok (g i j)) := fun F H x y v u Q e h1 h2 k =>
  ⟨x, y, h1, h2, k _ F H (Adv.refl e) rfl⟩
theorem opx_I {C : Int → Int → Prop} {g : Int → Int → Int} : OpX K (rI C fun i j => .int (g i j)) (fun i j => .need (C i j) (.ok (g i j))) := fun F H x y v u Q e h1 h2 k => by
  by_cases c : C x y
  · have k : KE K (fun _ _ _ _ => False) F H [] Q (Res.need (C x y) (.ok (g x y))) := k
    rw [Res.need_pos c] at k
    exact ⟨x, y, h1, h2, c, k _ F H (Adv.refl e) rfl⟩
  · have k : KE K (fun _ _ _ _ => False) F H [] Q (Res.need (C x y) (.ok (g x y))) := k
    rw [Res.need_neg c] at k
    exact k.elim
/-- the same where the condition is known -/
theorem ev_opI {m1 m2 : Res Int} {C : Int → Int → Prop} {g : Int → Int → Int} (hc : ∀ x y, m1 = .ok x → m2 = .ok y → C x y) (ha : EvX K W env ta m1) (hb : EvX K W env tb m2) :
    EvX K W env (tOp (rI C fun i j => .int (g i j)) ta tb) (m1.bind fun x => m2.bind fun y => .ok (g x y)) := fun F0 H0 F H σ Q S k => by
  refine ha F0 H0 F H σ _ S (KE.cut S.ex k fun x v F1 H1 e1 a1 r1 k1 => ?_)
  refine hb F0 H0 F1 H1 σ _ (S.step a1) (KE.cut a1.in_ k1 fun y u F2 H2 e2 a2 r2 k2 => ?_)
  exact ⟨x, y, r1, r2, hc x y e1 e2, k2 _ F2 H2 (Adv.refl a2.in_) rfl⟩
theorem ev_un {m1 : Res Int} {g : Int → Int} (ha : EvX K W env ta m1) : EvX K W env (tUn (rU fun i => .int (g i)) ta) (m1.bind fun x => .ok (g x)) := fun F0 H0 F H σ Q S k => by
  refine ha F0 H0 F H σ _ S (KE.cut S.ex k fun x v F1 H1 e1 a1 r1 k1 => ?_)
  exact ⟨x, r1, k1 _ F1 H1 (Adv.refl a1.in_) rfl⟩
/-- == of two ints, two bools, two texts -/
theorem opx_eqI : OpX K rEq (fun (i j : Int) => .ok (decide (i = j))) := fun F H x y v u Q e h1 h2 k => by
  cases (show v = V.int x from h1); cases (show u = V.int y from h2)
  refine ⟨rfl, ?_⟩
  rw [show decide (V.int x = V.int y) = decide (x = y) by rw [dec_int]; rfl]
  exact k _ F H (Adv.refl e) rfl
theorem opx_neI : OpX K rNe (fun (i j : Int) => .ok (!decide (i = j))) := fun F H x y v u Q e h1 h2 k => by
  cases (show v = V.int x from h1); cases (show u = V.int y from h2)
  refine ⟨rfl, ?_⟩
  rw [show decide (V.int x = V.int y) = decide (x = y) by rw [dec_int]; rfl]
  exact k _ F H (Adv.refl e) rfl
theorem opx_eqB : OpX K rEq (fun (i j : Bool) => .ok (i == j)) := fun F H x y v u Q e h1 h2 k => by
  cases (show v = V.bl x from h1); cases (show u = V.bl y from h2)
  refine ⟨rfl, ?_⟩
  rw [dec_bl]
  exact k _ F H (Adv.refl e) rfl
theorem opx_neB : OpX K rNe (fun (i j : Bool) => .ok (!(i == j))) := fun F H x y v u Q e h1 h2 k => by
  cases (show v = V.bl x from h1); cases (show u = V.bl y from h2)
  refine ⟨rfl, ?_⟩
  rw [dec_bl]
  exact k _ F H (Adv.refl e) rfl
theorem opx_eqS : OpX K rEq (fun (i j : Str) => .ok (i == j)) := fun F H x y v u Q e h1 h2 k => by
  cases (show v = V.str x from h1); cases (show u = V.str y from h2)
  refine ⟨rfl, ?_⟩
  rw [dec_str]
  exact k _ F H (Adv.refl e) rfl
theorem opx_neS : OpX K rNe (fun (i j : Str) => .ok (!(i == j))) := fun F H x y v u Q e h1 h2 k => by
  cases (show v = V.str x from h1); cases (show u = V.str y from h2)
  refine ⟨rfl, ?_⟩
  rw [dec_str]
  exact k _ F H (Adv.refl e) rfl
def D.isNon : D → Bool
  | .non => true
  | _ => false
theorem rep_isNon : ∀ {x : D} {v : V}, Rep K F x v → decide (v = V.non) = x.isNon
  | .non, v, h => by rw [show v = V.non from h]; rfl
  | .bl b, v, h => by rw [show v = V.bl b from h]; rfl
  | .int b, v, h => by rw [show v = V.int b from h]; rfl
  | .str b, v, h => by rw [show v = V.str b from h]; rfl
  | .ty b, v, h => by rw [show v = V.ty b from h]; rfl
  | .tup ds, v, h => by obtain ⟨a, vs, rfl, _⟩ := h; rfl
  | .lst ds, v, h => by obtain ⟨a, vs, rfl, _⟩ := h; rfl
  | .obj c ks ds, v, h => by obtain ⟨a, dx, vs, rfl, _⟩ := h; rfl
theorem opx_isN : OpX K (fun x y H Q => y = .non ∧ Q (.bl (decide (x = .non))) H) (fun (x : α) (_ : Unit) => .ok (toD x).isNon) := fun F H x y v u Q e h1 h2 k =>
  ⟨h2, by rw [rep_isNon h1]; exact k _ F H (Adv.refl e) rfl⟩
theorem opx_notN : OpX K (fun x y H Q => y = .non ∧ Q (.bl (!decide (x = .non))) H) (fun (x : α) (_ : Unit) => .ok (!(toD x).isNon)) := fun F H x y v u Q e h1 h2 k =>
  ⟨h2, by rw [rep_isNon h1]; exact k _ F H (Adv.refl e) rfl⟩

/-! ### == of data -/
mutual
def D.py : D → PyData
  | .non => .none
  | .bl b => .bool b
  | .int i => .int i
  | .str s => .str s
  | .ty _ => .none
  | .tup xs => .tuple (pyL xs)
  | .lst xs => .list (pyL xs)
  | .obj _ _ _ => .none
def pyL : List D → List PyData
  | [] => []
  | x :: xs => D.py x :: pyL xs
end
mutual
/-- no objects, no classes within -/
def D.flat : D → Bool
  | .ty _ => false
  | .obj _ _ _ => false
  | .tup xs => flatL xs
  | .lst xs => flatL xs
  | _ => true
def flatL : List D → Bool
  | [] => true
  | x :: xs => D.flat x && flatL xs
end
mutual
theorem dp_of : ∀ {x : D} {v : V}, Rep K F x v → x.flat = true → Dp K F v x.py
  | .non, v, h, _ => by rw [show v = V.non from h]; exact .non
  | .bl b, v, h, _ => by rw [show v = V.bl b from h]; exact .bl b
  | .int b, v, h, _ => by rw [show v = V.int b from h]; exact .int b
  | .str b, v, h, _ => by rw [show v = V.str b from h]; exact .str b
  | .ty b, v, h, q => by cases q
  | .tup ds, v, h, q => by obtain ⟨a, vs, rfl, h2, h3⟩ := h; exact .tup h2 (dps_of h3 q)
  | .lst ds, v, h, q => by obtain ⟨a, vs, rfl, h2, h3⟩ := h; exact .lst h2 (dps_of h3 q)
  | .obj c ks ds, v, h, q => by cases q
theorem dps_of : ∀ {xs : List D} {vs : List V}, Reps K F xs vs → flatL xs = true → DpAll K F vs (pyL xs)
  | [], vs, h, _ => by rw [show vs = [] from h]; exact .nil
  | x :: xs, vs, h, q => by
    obtain ⟨v, r, rfl, h2, h3⟩ := h
    have q2 := Bool.and_eq_true_iff.mp (show (D.flat x && flatL xs) = true from q)
    exact .cons (dp_of h2 q2.1) (dps_of h3 q2.2)
end
mutual
theorem Dp.mono {e : Ex F F'} : ∀ {v : V} {x : PyData}, Dp K F v x → Dp K F' v x
  | _, _, .non => .non
  | _, _, .bl b => .bl b
  | _, _, .int b => .int b
  | _, _, .str b => .str b
  | _, _, .lst h1 h2 => .lst (Evl.ex_l e h1) (Dps.mono (e := e) h2)
  | _, _, .tup h1 h2 => .tup (Evl.ex_t e h1) (Dps.mono (e := e) h2)
theorem Dps.mono {e : Ex F F'} : ∀ {v : List V} {x : List PyData}, DpAll K F v x → DpAll K F' v x
  | _, _, .nil => .nil
  | _, _, .cons h1 h2 => .cons (Dp.mono (e := e) h1) (Dps.mono (e := e) h2)
end
/-- data that == may be asked of -/
def D.okq (x : D) : Bool := x.flat && SeqAt.shaped x.py
def pyEq (x y : D) : Bool := PyData.eqv x.py y.py
theorem opx_eqD : OpX K (rEqD K) (fun (x : α) (y : β) => .need ((toD x).okq = true ∧ (toD y).okq = true) (.ok (pyEq (toD x) (toD y)))) := fun F H x y v u Q e h1 h2 k => by
  dsimp only at k
  by_cases c : (toD x).okq = true ∧ (toD y).okq = true
  · rw [Res.need_pos c] at k
    obtain ⟨c1, c2⟩ := c
    obtain ⟨a1, a2⟩ := Bool.and_eq_true_iff.mp c1
    obtain ⟨b1, b2⟩ := Bool.and_eq_true_iff.mp c2
    exact ⟨_, _, Dp.mono (e := e) (dp_of h1 a1), Dp.mono (e := e) (dp_of h2 b1), a2, b2, k _ F H (Adv.refl e) rfl⟩
  · rw [Res.need_neg c] at k
    exact k.elim
theorem opx_neD : OpX K (rNeD K) (fun (x : α) (y : β) => .need ((toD x).okq = true ∧ (toD y).okq = true) (.ok (!pyEq (toD x) (toD y)))) := fun F H x y v u Q e h1 h2 k => by
  dsimp only at k
  by_cases c : (toD x).okq = true ∧ (toD y).okq = true
  · rw [Res.need_pos c] at k
    obtain ⟨c1, c2⟩ := c
    obtain ⟨a1, a2⟩ := Bool.and_eq_true_iff.mp c1
    obtain ⟨b1, b2⟩ := Bool.and_eq_true_iff.mp c2
    exact ⟨_, _, Dp.mono (e := e) (dp_of h1 a1), Dp.mono (e := e) (dp_of h2 b1), a2, b2, k _ F H (Adv.refl e) rfl⟩
  · rw [Res.need_neg c] at k
    exact k.elim

/-! ### an item -/
def idx {α : Type} (xs : List α) (i : Int) : Res α := match atI xs i with
  | some x => .ok x
  | none => .stuck
theorem idx_mild {α : Type} (xs : List α) (i : Int) (c : Str) : idx xs i ≠ .exc c := by
  unfold idx; split <;> intro h <;> cases h
theorem atI_map {α β : Type} (f : α → β) (xs : List α) (i : Int) : atI (xs.map f) i = (atI xs i).map f := by
  unfold atI
  rw [List.length_map]
  cases ixN xs.length i with
  | none => rfl
  | some j => simp
theorem Reps.at {xs : List D} {vs : List V} {i : Int} {x : D} (h : Reps K F xs vs) (e : atI xs i = some x) : ∃ v, atI vs i = some v ∧ Rep K F x v := by
  unfold atI at e ⊢
  rw [← h.length]
  cases q : ixN xs.length i with
  | none => rw [q] at e; cases e
  | some j => rw [q] at e; exact Reps.get h e
theorem opx_ixL : OpX K (rIxL K) (fun (xs : List α) (i : Int) => idx xs i) := fun F H xs i v u Q e h1 h2 k => by
  obtain ⟨a, vs, rfl, hl, hr⟩ := h1
  cases (show u = V.int i from h2)
  dsimp only [idx] at k
  cases q : atI xs i with
  | none => rw [q] at k; exact k.elim
  | some x =>
    rw [q] at k
    obtain ⟨w, hw, rw_⟩ := Reps.at (i := i) hr (x := toD x) (by rw [atI_map, q]; rfl)
    exact ⟨a, vs, i, w, rfl, rfl, Evl.ex_l e hl, hw, k _ F H (Adv.refl e) rw_⟩
theorem opx_ixT : OpX K (rIxT K) (fun (xs : Tu α) (i : Int) => idx xs.xs i) := fun F H xs i v u Q e h1 h2 k => by
  obtain ⟨a, vs, rfl, hl, hr⟩ := h1
  cases (show u = V.int i from h2)
  dsimp only [idx] at k
  cases q : atI xs.xs i with
  | none => rw [q] at k; exact k.elim
  | some x =>
    rw [q] at k
    obtain ⟨w, hw, rw_⟩ := Reps.at (i := i) hr (x := toD x) (by rw [atI_map, q]; rfl)
    exact ⟨a, vs, i, w, rfl, rfl, Evl.ex_t e hl, hw, k _ F H (Adv.refl e) rw_⟩
/-- t[i], i written, t a tuple whose parts have types of their own -/
theorem ev_ixTC {m : Res α} {i : Int} {f : α → β} (ha : EvX K W env ta m) (hf : ∀ x, ∃ ds, toD x = .tup ds ∧ atI ds i = some (toD (f x))) :
    EvX K W env (tOp (rIxT K) ta (tC (.int i))) (m.bind fun x => .ok (f x)) := fun F0 H0 F H σ Q S k => by
  refine ha F0 H0 F H σ _ S (KE.cut S.ex k fun x v F1 H1 e1 a1 r1 k1 => ?_)
  obtain ⟨ds, e, q⟩ := hf x
  rw [e] at r1
  obtain ⟨a, vs, rfl, hl, hr⟩ := r1
  obtain ⟨w, hw, rw_⟩ := Reps.at (i := i) hr q
  exact ⟨a, vs, i, w, rfl, rfl, Evl.ex_t a1.in_ hl, hw, k1 _ F1 H1 (Adv.refl a1.in_) rw_⟩
/-- xs[i], xs the owned list of slot j -/
theorem ev_ixO {j : Nat} {xs : List α} {m : Res Int} (h : env[j]? = some (some (.ow (xs.map toD)))) (hb : EvX K W env tb m) : EvX K W env (tOp (rIxL K) (tVar j) tb) (m.bind fun i => idx xs i) := fun F0 H0 F H σ Q S k => by
  obtain ⟨v, e, p, vs, rfl, h0, hf, hp, hr⟩ := S.slot j _ h
  refine ⟨_, e, ?_⟩
  refine hb F0 H0 F H σ _ S (KE.cut S.ex k fun i u F1 H1 e1 a1 r1 k1 => ?_)
  cases (show u = V.int i from r1)
  unfold idx at k1
  cases q : atI xs i with
  | none => rw [q] at k1; exact k1.elim
  | some x =>
    rw [q] at k1
    obtain ⟨w, hw, rw_⟩ := Reps.at (i := i) hr (x := toD x) (by rw [atI_map, q]; rfl)
    exact ⟨p, vs, i, w, rfl, rfl, .inl (.inl (a1.h _ _ hp)), hw, k1 _ F1 H1 (Adv.refl a1.in_) (Rep.mono a1.f _ _ rw_)⟩

/-! ### tests, and, or, not -/
theorem et_test {m : Res Bool} (ha : EvX K W env te m) : EvT K W env (tTest te) m := fun F0 H0 F H σ Q S k => by
  refine ha F0 H0 F H σ _ S ?_
  cases m with
  | ok b => exact fun v F' H' a q => ⟨b, q, k F' H' a⟩
  | exc c => exact k
  | stuck => exact k.elim
theorem et_B {m : Res Bool} (ha : EvX K W env te m) : EvT K W env (tB te) m := et_test ha
theorem et_not {m : Res Bool} (ha : EvT K W env tt m) : EvT K W env (tNot tt) (m.bind fun b => .ok (!b)) := fun F0 H0 F H σ Q S k => by
  refine ha F0 H0 F H σ _ S ?_
  cases m with
  | ok b => exact k
  | exc c => exact k
  | stuck => exact k.elim
theorem et_and {m1 m2 : Res Bool} (ha : EvT K W env tt m1) (hb : EvT K W env tu m2) : EvT K W env (tAnd tt tu) (m1.bind fun b => cond b m2 (.ok false)) := fun F0 H0 F H σ Q S k => by
  refine ha F0 H0 F H σ _ S ?_
  cases m1 with
  | ok b =>
    intro F' H' a
    cases b with
    | true =>
      have k : KT K W F H σ Q m2 := k
      show tu σ H' Q
      exact hb F0 H0 F' H' σ Q (S.step a) (k.adv a)
    | false => exact k F' H' a
  | exc c => exact k
  | stuck => exact k.elim
theorem et_or {m1 m2 : Res Bool} (ha : EvT K W env tt m1) (hb : EvT K W env tu m2) : EvT K W env (tOr tt tu) (m1.bind fun b => cond b (.ok true) m2) := fun F0 H0 F H σ Q S k => by
  refine ha F0 H0 F H σ _ S ?_
  cases m1 with
  | ok b =>
    intro F' H' a
    cases b with
    | false =>
      have k : KT K W F H σ Q m2 := k
      show tu σ H' Q
      exact hb F0 H0 F' H' σ Q (S.step a) (k.adv a)
    | true => exact k F' H' a
  | exc c => exact k
  | stuck => exact k.elim
theorem ev_andV {m1 m2 : Res Bool} (ha : EvX K W env ta m1) (hb : EvX K W env tb m2) : EvX K W env (tAndV ta tb) (m1.bind fun b => cond b m2 (.ok false)) := fun F0 H0 F H σ Q S k => by
  refine ha F0 H0 F H σ _ S ?_
  cases m1 with
  | ok b =>
    intro v F' H' a r
    refine ⟨b, r, ?_⟩
    cases b with
    | true =>
      have k : KE K W F H σ Q m2 := k
      exact hb F0 H0 F' H' σ Q (S.step a) (k.adv a)
    | false => exact k _ F' H' a rfl
  | exc c => exact k
  | stuck => exact k.elim
theorem ev_orV {m1 m2 : Res Bool} (ha : EvX K W env ta m1) (hb : EvX K W env tb m2) : EvX K W env (tOrV ta tb) (m1.bind fun b => cond b (.ok true) m2) := fun F0 H0 F H σ Q S k => by
  refine ha F0 H0 F H σ _ S ?_
  cases m1 with
  | ok b =>
    intro v F' H' a r
    refine ⟨b, r, ?_⟩
    cases b with
    | false =>
      have k : KE K W F H σ Q m2 := k
      exact hb F0 H0 F' H' σ Q (S.step a) (k.adv a)
    | true => exact k _ F' H' a rfl
  | exc c => exact k
  | stuck => exact k.elim
theorem ev_notV {m : Res Bool} (ha : EvX K W env ta m) : EvX K W env (tNotV ta) (m.bind fun b => .ok (!b)) := fun F0 H0 F H σ Q S k => by
  refine ha F0 H0 F H σ _ S ?_
  cases m with
  | ok b => exact fun v F' H' a r => ⟨b, r, k _ F' H' a rfl⟩
  | exc c => exact k
  | stuck => exact k.elim
theorem ev_if {m : Res Bool} {m1 m2 : Res α} (hc : EvT K W env tt m) (ha : EvX K W env ta m1) (hb : EvX K W env tb m2) : EvX K W env (tIf tt ta tb) (m.bind fun b => cond b m1 m2) := fun F0 H0 F H σ Q S k => by
  refine hc F0 H0 F H σ _ S ?_
  cases m with
  | ok b =>
    intro F' H' a
    cases b with
    | true =>
      have k : KE K W F H σ Q m1 := k
      show ta σ H' Q
      exact ha F0 H0 F' H' σ Q (S.step a) (k.adv a)
    | false =>
      have k : KE K W F H σ Q m2 := k
      show tb σ H' Q
      exact hb F0 H0 F' H' σ Q (S.step a) (k.adv a)
  | exc c => exact k
  | stuck => exact k.elim
/-- a < b < c -/
theorem ev_chain {m1 : Res α} {m2 : Res β} {m3 : Res γ} {r' : R2} {f : α → β → Res Bool} {g : β → γ → Res Bool} (ho : OpX K r f) (hf : Mild f) (ho' : OpX K r' g) (hg : Mild g) (ha : EvX K W env ta m1) (hb : EvX K W env tb m2) (hc : EvX K W env tc m3) :
    EvX K W env (tChain r r' ta tb tc) (m1.bind fun x => m2.bind fun y => (f x y).bind fun b => cond b (m3.bind fun z => g y z) (.ok false)) := fun F0 H0 F H σ Q S k => by
  refine ha F0 H0 F H σ _ S (KE.cut S.ex k fun x v F1 H1 e1 a1 r1 k1 => ?_)
  refine hb F0 H0 F1 H1 σ _ (S.step a1) (KE.cut a1.in_ k1 fun y u F2 H2 e2 a2 r2 k2 => ?_)
  refine ho F2 H2 x y v u _ a2.in_ (Rep.mono a2.f _ _ r1) r2 ?_
  cases q : f x y with
  | ok b =>
    rw [q] at k2
    intro w F3 H3 a3 rb
    refine ⟨b, rb, ?_⟩
    cases b with
    | true =>
      have k3 : KE K W F2 H2 σ Q (m3.bind fun z => g y z) := k2
      show tc σ H3 _
      refine hc F0 H0 F3 H3 σ _ (((S.step a1).step a2).step a3) (KE.cut a3.in_ (k3.adv a3) fun z w F4 H4 e4 a4 r4 k4 => ?_)
      exact ho' F4 H4 y z u w Q a4.in_ (Rep.mono (a3.trans a4).f _ _ r2) r4 (k4.mild (hg y z))
    | false => exact k2 _ F3 H3 a3 rfl
  | exc c => exact absurd q (hf x y c)
  | stuck => rw [q] at k2; exact k2.elim

/-! ### arguments, displays, calls -/
theorem ea_nil : EvA K W env tNil (.ok ()) := fun F0 H0 F H σ Q S k => k [] F H (Adv.refl S.ex) rfl
theorem ea_cons {δ : Type} [ToDs δ] {t : TA} {m1 : Res α} {m2 : Res δ} (ha : EvX K W env te m1) (hb : EvA K W env t m2) : EvA K W env (tCons te t) (m1.bind fun x => m2.bind fun y => .ok (x, y)) := fun F0 H0 F H σ Q S k => by
  refine ha F0 H0 F H σ _ S ?_
  cases m1 with
  | ok x =>
    intro v F1 H1 a1 r1
    have k1 : KA K W F H σ Q (m2.bind fun y => .ok (x, y)) := k
    refine hb F0 H0 F1 H1 σ _ (S.step a1) ?_
    cases m2 with
    | ok y =>
      intro vs F2 H2 a2 r2
      exact k1 (v :: vs) F2 H2 (a1.trans a2) ⟨v, vs, rfl, Rep.mono a2.f _ _ r1, r2⟩
    | exc c => exact fun F2 H2 a2 => k1 F2 H2 (a1.trans a2)
    | stuck => exact k1.elim
  | exc c => exact k
  | stuck => exact k.elim
/-- a tuple that is made; its type by f -/
theorem ev_tup {δ : Type} [ToDs δ] {t : TA} {m : Res δ} {f : δ → α} (ha : EvA K W env t m) (hf : ∀ y : δ, toD (f y) = .tup (ToDs.ds y)) (hn : ∀ y : δ, (ToDs.ds y).length ≤ 100000) : EvX K W env (tTup t) (m.bind fun y => .ok (f y)) := fun F0 H0 F H σ Q S k => by
  refine ha F0 H0 F H σ _ S ?_
  cases m with
  | ok y =>
    intro vs F1 H1 a1 r1
    refine ⟨by rw [← r1.length]; exact Evl.sz_of (hn y), fun p hp => ?_⟩
    have a2 : Adv F1 H1 (upd F1 p (.tup vs)) (upd H1 p (.tup vs)) := Adv.new a1.in_ hp
    refine k _ _ _ (a1.trans a2) ?_
    rw [hf]
    exact ⟨p, vs, rfl, .inl (.inl upd_same), Reps.mono a2.f _ _ r1⟩
  | exc c => exact k
  | stuck => exact k.elim
/-- a list that is made -/
theorem en_lst {δ : Type} [ToDs δ] {t : TA} {m : Res δ} {f : δ → List α} (ha : EvA K W env t m) (hf : ∀ y : δ, (f y).map toD = ToDs.ds y) (hn : ∀ y : δ, (ToDs.ds y).length ≤ 100000) : EvN K W env (tLst t) (m.bind fun y => .ok (f y)) := fun F0 H0 F H σ Q S k => by
  refine ha F0 H0 F H σ _ S ?_
  cases m with
  | ok y =>
    intro vs F1 H1 a1 r1
    refine ⟨by rw [← r1.length]; exact Evl.sz_of (hn y), fun p hp => ?_⟩
    refine k p vs _ _ (a1.trans (Adv.newO a1.in_ hp)) (Evl.fresh_back a1.h hp) (none_of_ex a1.in_ hp) upd_same ?_
    rw [hf]
    exact r1
  | exc c => exact k
  | stuck => exact k.elim
/-- a new list as a value that is not changed later -/
theorem ev_ofN {m : Res (List α)} (h : EvN K W env te m) : EvX K W env te m := fun F0 H0 F H σ Q S k => by
  refine h F0 H0 F H σ Q S ?_
  cases m with
  | ok xs =>
    intro p vs F1 H1 a1 hp hf hh r
    have e : Ex F1 (upd F1 p (.lst vs)) := Ex.new hf
    refine k _ (upd F1 p (.lst vs)) H1 ⟨a1.f.trans e, a1.h, fun a u q => ?_, fun q h1 h2 => ?_⟩ ⟨p, vs, rfl, .inl (.inl upd_same), Reps.mono e _ _ r⟩
    · by_cases z : a = p
      · subst z; rw [upd_same] at q; cases q; exact hh
      · rw [upd_ne z] at q; exact a1.in_ a u q
    · have z : q ≠ p := fun z => h2 (by rw [z]; exact hp)
      rw [upd_ne z]; exact a1.out q h1 h2
  | exc c => exact k
  | stuck => exact k.elim
/-- a def's promise, by the function that tells what it gives -/
def spM (K : PySem.W.Frag) {δ : Type} [ToDs δ] (f : δ → Res α) : Sp := fun vs H Q E => ∃ F x, Ex F H ∧ Reps K F (ToDs.ds x) vs ∧ KE K (fun cls d _ H => E cls d H) F H [] Q (f x)
theorem ev_call {δ : Type} [ToDs δ] {t : TA} {m : Res δ} {f : δ → Res α} (ha : EvA K W env t m) : EvX K W env (tCallS (spM K f) (WE W) t) (m.bind f) := fun F0 H0 F H σ Q S k => by
  refine ha F0 H0 F H σ _ S ?_
  cases m with
  | ok y =>
    intro vs F1 H1 a1 r1
    refine ⟨F1, y, a1.in_, r1, ?_⟩
    have k : KE K W F H σ Q (f y) := k
    have k := k.adv a1
    revert k
    generalize f y = z
    intro k
    cases z with
    | ok z => exact k
    | exc c => exact k
    | stuck => exact k.elim
  | exc c => exact k
  | stuck => exact k.elim
namespace Res
def noexc {α : Type} : Res α → Res α
  | .exc _ => .stuck
  | m => m
end Res
/-- a call of a def that lets nothing out there -/
theorem ev_call0 {δ : Type} [ToDs δ] {t : TA} {m : Res δ} {f : δ → Res α} (ha : EvA K W env t m) : EvX K W env (tCall (spM K f) [] E0 t) (m.bind fun y => (f y).noexc) := fun F0 H0 F H σ Q S k => by
  refine ha F0 H0 F H σ _ S ?_
  cases m with
  | ok y =>
    intro vs F1 H1 a1 r1
    refine ⟨F1, y, a1.in_, by rw [List.append_nil]; exact r1, ?_⟩
    have k : KE K W F H σ Q (f y).noexc := k
    have k := k.adv a1
    revert k
    generalize f y = z
    intro k
    cases z with
    | ok z => exact k
    | exc c => exact k.elim
    | stuck => exact k.elim
  | exc c => exact k
  | stuck => exact k.elim
/-- built-in defs by their values -/
def CrX (K : PySem.W.Frag) (r : List V → Hp → VK → Prop) {δ : Type} [ToDs δ] (f : δ → Res α) : Prop := ∀ (F H : Hp) (x : δ) (vs : List V) (Q : VK), Ex F H → Reps K F (ToDs.ds x) vs → KE K (fun _ _ _ _ => False) F H [] Q (f x) → r vs H Q
theorem ev_cb {δ : Type} [ToDs δ] {r : List V → Hp → VK → Prop} {t : TA} {m : Res δ} {f : δ → Res α} (ho : CrX K r f) (hm : ∀ x c, f x ≠ .exc c) (ha : EvA K W env t m) : EvX K W env (tCB r t) (m.bind f) := fun F0 H0 F H σ Q S k => by
  refine ha F0 H0 F H σ _ S ?_
  cases m with
  | ok y =>
    intro vs F1 H1 a1 r1
    have k : KE K W F H σ Q (f y) := k
    exact ho F1 H1 y vs Q a1.in_ r1 ((k.adv a1).mild (hm y))
  | exc c => exact k
  | stuck => exact k.elim
end
end Mi
set_option maxHeartbeats 1000000
namespace Mi
open PySem PySem.Spec L2
open Evl (Ex)

/-! ### statements -/
inductive EnLe : En → En → Prop
  | nil : EnLe [] []
  | same {e : Option Sk} {l m : En} : EnLe l m → EnLe (e :: l) (e :: m)
  | drop {e : Option Sk} {l m : En} : EnLe l m → EnLe (e :: l) (none :: m)
theorem EnLe.refl : ∀ l : En, EnLe l l
  | [] => .nil
  | _ :: l => .same (EnLe.refl l)
theorem EnLe.get : ∀ {l m : En}, EnLe l m → ∀ {i : Nat} {sk : Sk}, m[i]? = some (some sk) → l[i]? = some (some sk)
  | _, _, .nil, i, sk, h => h
  | _, _, .same t, 0, sk, h => h
  | _, _, .same t, i + 1, sk, h => EnLe.get t (by simpa using h)
  | _, _, .drop t, 0, sk, h => by simp at h
  | _, _, .drop t, i + 1, sk, h => EnLe.get t (by simpa using h)
theorem EnLe.len {l m : En} (h : EnLe l m) : l.length = m.length := by
  induction h with
  | nil => rfl
  | same _ ih => simp [ih]
  | drop _ ih => simp [ih]
theorem Sl.weak {K : PySem.W.Frag} {F0 H0 F H : Hp} {σ : L2.St} {env env' : En} (S : Sl K F0 H0 F H σ env) (h : EnLe env env') : Sl K F0 H0 F H σ env' :=
  ⟨S.adv, fun i sk e => S.slot i sk (h.get e), fun i j sk sk' p hij e1 e2 => S.dis i j sk sk' p hij (h.get e1) (h.get e2), S.len.trans h.len⟩
def Blk (K : PySem.W.Frag) (F0 H0 : Hp) {τ : Type} (KP : Res τ → Prop) (T : L2.St → Hp → Prop) (env : En) (m : Res τ) : Prop :=
  ∀ F H σ, Sl K F0 H0 F H σ env → KP m → T σ H
structure Lk (K : PySem.W.Frag) (W : WX) (F0 H0 : Hp) (rt : VK) (PT : En → Prop) {τ : Type} [ToD τ] (KP : Res τ → Prop) : Prop where
  ok : ∀ x, KP (.ok x) → ∀ v F H, Adv F0 H0 F H → Rep K F (toD x) v → rt v H
  exc : ∀ c F H σ env, KP (.exc c) → PT env → Sl K F0 H0 F H σ env → W (.ref (He.ga K c)) none σ H
  no : ¬ KP .stuck
section
variable {K : PySem.W.Frag} {W : WX} {F0 H0 F H F' H' F1 : Hp} {rt : VK} {PT : En → Prop} {env env' : En} {α β γ τ : Type} [ToD α] [ToD β] [ToD γ] [ToD τ] {KP : Res τ → Prop} {te ta tb tc : TE} {tt : TT} {Z : Ends} {t u : TS} {T : L2.St → Hp → Prop}
theorem Sl.base {σ : L2.St} (S : Sl K F0 H0 F1 H' σ env) {σ' : L2.St} (S' : Sl K F1 H0 F H σ' env') : Sl K F0 H0 F H σ' env' :=
  ⟨⟨S.adv.f.trans S'.adv.f, S'.adv.h, S'.adv.in_, fun p h1 h2 => S'.adv.out p (S.adv.out p h1 h2) h2⟩, S'.slot, S'.dis, S'.len⟩
theorem Lk.base (L : Lk K W F0 H0 rt PT KP) {σ : L2.St} (S : Sl K F0 H0 F1 H' σ env) : Lk K W F1 H0 rt PT KP :=
  ⟨fun x h v F H a r => L.ok x h v F H ⟨S.adv.f.trans a.f, a.h, a.in_, fun p h1 h2 => a.out p (S.adv.out p h1 h2) h2⟩ r,
   fun c F H σ' env' h p S' => L.exc c F H σ' env' h p (S.base S'), L.no⟩
theorem Blk.base {m : Res τ} (B : Blk K F0 H0 KP T env' m) {σ : L2.St} (S : Sl K F0 H0 F1 H' σ env) : Blk K F1 H0 KP T env' m := fun F H σ' S' h => B F H σ' (S.base S') h
theorem Blk.weak {m : Res τ} (B : Blk K F0 H0 KP T env' m) (h : EnLe env env') : Blk K F0 H0 KP T env m := fun F H σ S k => B F H σ (S.weak h) k

/-- what follows an expression in a block -/
theorem Lk.ke (L : Lk K W F0 H0 rt PT KP) (hT : PT env) {σ : L2.St} (S : Sl K F0 H0 F H σ env) {m : Res α} {f : α → Res τ} (h : KP (m.bind f)) {Q : VK}
    (k : ∀ x v F' H', m = .ok x → Adv F H F' H' → Rep K F' (toD x) v → KP (f x) → Q v H') : KE K W F H σ Q m := by
  cases m with
  | ok x => exact fun v F' H' a r => k x v F' H' rfl a r h
  | exc c => exact fun F' H' a => L.exc c F' H' σ env h hT (S.step a)
  | stuck => exact (L.no h).elim
theorem Lk.kt (L : Lk K W F0 H0 rt PT KP) (hT : PT env) {σ : L2.St} (S : Sl K F0 H0 F H σ env) {m : Res Bool} {f : Bool → Res τ} (h : KP (m.bind f)) {Q : Bool → Hp → Prop}
    (k : ∀ x F' H', m = .ok x → Adv F H F' H' → KP (f x) → Q x H') : KT K W F H σ Q m := by
  cases m with
  | ok x => exact fun F' H' a => k x F' H' rfl a h
  | exc c => exact fun F' H' a => L.exc c F' H' σ env h hT (S.step a)
  | stuck => exact (L.no h).elim
theorem Lk.kn (L : Lk K W F0 H0 rt PT KP) (hT : PT env) {σ : L2.St} (S : Sl K F0 H0 F H σ env) {m : Res (List α)} {f : List α → Res τ} (h : KP (m.bind f)) {Q : VK}
    (k : ∀ xs p vs F' H', m = .ok xs → Adv F H F' H' → H p = none → F' p = none → H' p = some (.lst vs) → Reps K F' (xs.map toD) vs → KP (f xs) → Q (.ref p) H') : KN K W F H σ Q m := by
  cases m with
  | ok x => exact fun p vs F' H' a h1 h2 h3 h4 => k x p vs F' H' rfl a h1 h2 h3 h4 h
  | exc c => exact fun F' H' a => L.exc c F' H' σ env h hT (S.step a)
  | stuck => exact (L.no h).elim

theorem blk_seq {m : Res τ} (h : Blk K F0 H0 KP (t { Z with nx := u Z }) env m) : Blk K F0 H0 KP (tSeq t u Z) env m := h
theorem blk_nil {m : Res τ} (h : Blk K F0 H0 KP Z.nx env m) : Blk K F0 H0 KP (tNext Z) env m := h

theorem Blk.nx {m : Res τ} {T bk ct : L2.St → Hp → Prop} {r : VK} (h : Blk K F0 H0 KP T env m) : Blk K F0 H0 KP (Ends.nx ⟨T, r, bk, ct⟩) env m := h
/-! targets -/
def GX (K : PySem.W.Frag) (g : TG) (x : D) (f : En → En) (ws : List Nat) : Prop := ∀ (F0 H0 F H : Hp) (σ : L2.St) (env : En) (v : V) (T : L2.St → Hp → Prop), Sl K F0 H0 F H σ env → Rep K F x v →
  (∀ σ', Sl K F0 H0 F H σ' (f env) → σ'.length = σ.length → (∀ j, j ∉ ws → σ'[j]? = σ[j]?) → T σ' H) → g v σ H T
def GXs (K : PySem.W.Frag) (g : TGs) (xs : List D) (f : En → En) (ws : List Nat) : Prop := ∀ (F0 H0 F H : Hp) (σ : L2.St) (env : En) (vs : List V) (T : L2.St → Hp → Prop), Sl K F0 H0 F H σ env → Reps K F xs vs →
  (∀ σ', Sl K F0 H0 F H σ' (f env) → σ'.length = σ.length → (∀ j, j ∉ ws → σ'[j]? = σ[j]?) → T σ' H) → g vs σ H T
def stE (i : Nat) (x : D) : En → En := fun env => env.set i (some (.im x))
theorem gx_name {i : Nat} {x : D} : GX K (gName i) x (stE i x) [i] := fun F0 H0 F H σ env v T S r k =>
  k _ (S.setIm r) (by rw [List.length_set]) fun j hj => List.getElem?_set_ne fun e => hj (by rw [e]; exact List.mem_singleton.mpr rfl)
theorem gxs_nil : GXs K gNil [] (fun e => e) [] := fun F0 H0 F H σ env vs T S r k => ⟨r, k σ S rfl fun _ _ => rfl⟩
theorem gxs_cons {g : TG} {gs : TGs} {x : D} {xs : List D} {f1 f2 : En → En} {w1 w2 : List Nat} (h1 : GX K g x f1 w1) (h2 : GXs K gs xs f2 w2) : GXs K (gCons g gs) (x :: xs) (fun e => f2 (f1 e)) (w1 ++ w2) := fun F0 H0 F H σ env vs T S r k => by
  obtain ⟨v, rs, rfl, r1, r2⟩ := r
  refine ⟨v, rs, rfl, h1 F0 H0 F H σ env v _ S r1 fun σ1 S1 l1 o1 => ?_⟩
  refine h2 F0 H0 F H σ1 _ rs T S1 r2 fun σ2 S2 l2 o2 => ?_
  refine k σ2 S2 (l2.trans l1) fun j hj => ?_
  rw [o2 j fun z => hj (List.mem_append_right _ z), o1 j fun z => hj (List.mem_append_left _ z)]
theorem gx_tup {gs : TGs} {n : Nat} {xs : List D} {f : En → En} {ws : List Nat} (h : GXs K gs xs f ws) (hn : xs.length = n) : GX K (gTup K n gs) (.tup xs) f ws := fun F0 H0 F H σ env v T S r k => by
  obtain ⟨a, vs, rfl, h1, h2⟩ := r
  exact ⟨a, vs, rfl, Evl.ex_t S.ex h1, by rw [← h2.length]; exact hn, h F0 H0 F H σ env vs T S h2 k⟩

theorem blk_asg {g : TG} {m : Res α} {f : α → Res τ} {fe : α → En → En} {ws : List Nat} (L : Lk K W F0 H0 rt PT KP) (hT : PT env) (he : EvX K W env te m) (hg : ∀ x, GX K g (toD x) (fe x) ws)
    (k : ∀ x, Blk K F0 H0 KP Z.nx (fe x env) (f x)) : Blk K F0 H0 KP (tAsg te g Z) env (m.bind f) := fun F H σ S h =>
  he F0 H0 F H σ _ S (L.ke hT S h fun x v F1 H1 e1 a1 r1 h1 => hg x F0 H0 F1 H1 σ env v _ (S.step a1) r1 fun σ' S' _ _ => k x F1 H1 σ' S' h1)
theorem blk_set {i : Nat} {m : Res α} {f : α → Res τ} (L : Lk K W F0 H0 rt PT KP) (hT : PT env) (he : EvX K W env te m)
    (k : ∀ x, Blk K F0 H0 KP Z.nx (env.set i (some (.im (toD x)))) (f x)) : Blk K F0 H0 KP (tAsg te (gName i) Z) env (m.bind f) :=
  blk_asg L hT he (fun _ => gx_name) k
/-- x = a new list that is changed later -/
theorem blk_own {i : Nat} {m : Res (List α)} {f : List α → Res τ} (L : Lk K W F0 H0 rt PT KP) (hT : PT env) (he : EvN K W env te m)
    (k : ∀ xs, Blk K F0 H0 KP Z.nx (env.set i (some (.ow (xs.map toD)))) (f xs)) : Blk K F0 H0 KP (tAsg te (gName i) Z) env (m.bind f) := fun F H σ S h =>
  he F0 H0 F H σ _ S (L.kn hT S h fun xs p vs F1 H1 e1 a1 hp hf hh r h1 => by
    have S1 := S.step a1
    refine k xs F1 H1 _ (S1.setOw (Evl.fresh_back S.adv.h hp) hf hh (fun j sk' e ho z => ?_) r) h1
    obtain ⟨v, e2, q⟩ := S.slot j _ e
    obtain ⟨p', o', rfl, _, _, q4⟩ := q.at ho
    rw [e2] at z
    cases z
    rw [hp] at q4; cases q4)
/-- x.append(e), x an owned list -/
theorem blk_app {i : Nat} {xs : List β} {m : Res β} {f : β → Res τ} (L : Lk K W F0 H0 rt PT KP) (hT : PT env) (hx : env[i]? = some (some (.ow (xs.map toD)))) (he : EvX K W env te m)
    (k : ∀ y, Blk K F0 H0 KP Z.nx (env.set i (some (.ow ((xs ++ [y]).map toD)))) (f y)) :
    Blk K F0 H0 KP (tDrop (tBM K "list" rAppend (tVar i) (tCons te tNil)) Z) env (m.bind fun y => .need (xs.length < 16777216) (f y)) := fun F H σ S h => by
  obtain ⟨v, e, p, vs, rfl, h0, hf, hp, hr⟩ := S.slot i _ hx
  refine ⟨_, e, .inl ⟨rfl, _, .inl (.inl hp)⟩, ?_⟩
  refine he F0 H0 F H σ _ S (L.ke hT S h fun y u F1 H1 e1 a1 r1 h1 => ?_)
  by_cases c : xs.length < 16777216
  · rw [Res.need_pos c] at h1
    have hr' := Reps.mono a1.f _ _ hr
    refine ⟨p, vs, u, rfl, rfl, a1.h _ _ hp, by rw [sizeLine_eq, ← hr.length, List.length_map]; exact c, ?_⟩
    refine k y F1 _ σ ((S.step a1).chg hx e (a1.out p hf (by rw [hp]; simp)) h0 ?_) h1
    rw [List.map_append]
    exact Reps.append hr' (Reps.one r1)
  · rw [Res.need_neg c] at h1
    exact (L.no h1).elim
/-- x[i] = e, x an owned list -/
theorem blk_setI {i : Nat} {xs : List β} {m : Res β} {mi : Res Int} {f : List β → Res τ} (L : Lk K W F0 H0 rt PT KP) (hT : PT env) (hx : env[i]? = some (some (.ow (xs.map toD)))) (he : EvX K W env te m) (hi : EvX K W env tb mi)
    (k : ∀ ys, Blk K F0 H0 KP Z.nx (env.set i (some (.ow (ys.map toD)))) (f ys)) :
    Blk K F0 H0 KP (tAsg te (gSub (tVar i) tb rSetL) Z) env (m.bind fun y => mi.bind fun j => match ixN xs.length j with | some a => f (xs.set a y) | none => .stuck) := fun F H σ S h => by
  obtain ⟨v, e, p, vs, rfl, h0, hf, hp, hr⟩ := S.slot i _ hx
  refine he F0 H0 F H σ _ S (L.ke hT S h fun y u F1 H1 e1 a1 r1 h1 => ?_)
  refine ⟨_, e, ?_⟩
  refine hi F0 H0 F1 H1 σ _ (S.step a1) (L.ke hT (S.step a1) h1 fun j w F2 H2 e2 a2 r2 h2 => ?_)
  cases (show w = V.int j from r2)
  have hr' := Reps.mono (a1.trans a2).f _ _ hr
  have ha := (a1.trans a2)
  have hl : vs.length = xs.length := by rw [← hr.length, List.length_map]
  cases q : ixN xs.length j with
  | none => rw [q] at h2; exact (L.no h2).elim
  | some a =>
    rw [q] at h2
    refine ⟨p, vs, j, a, rfl, rfl, ha.h _ _ hp, by rw [hl]; exact q, ?_⟩
    refine k (xs.set a y) F2 _ σ ((S.step ha).chg hx e (ha.out p hf (by rw [hp]; simp)) h0 ?_) h2
    rw [List.map_set]
    exact Reps.set a hr' (Rep.mono a2.f _ _ r1)
theorem blk_freeze {xs : List D} (i : Nat) {m : Res τ} (hx : env[i]? = some (some (.ow xs))) (k : Blk K F0 H0 KP T (env.set i (some (.im (.lst xs)))) m) : Blk K F0 H0 KP T env m := fun F H σ S h => by
  obtain ⟨F', _, S'⟩ := S.freeze hx
  exact k F' H σ S' h
theorem blk_if {m : Res Bool} {f : Bool → Res τ} (L : Lk K W F0 H0 rt PT KP) (hT : PT env) (hc : EvT K W env tt m) (h1 : Blk K F0 H0 KP (t Z) env (f true)) (h2 : Blk K F0 H0 KP (u Z) env (f false)) :
    Blk K F0 H0 KP (tIfS tt t u Z) env (m.bind f) := fun F H σ S h =>
  hc F0 H0 F H σ _ S (L.kt hT S h fun b F1 H1 e1 a1 k1 => by
    cases b with
    | true => exact h1 F1 H1 σ (S.step a1) k1
    | false => exact h2 F1 H1 σ (S.step a1) k1)
theorem blk_ret {m : Res τ} (L : Lk K W F0 H0 rt PT KP) (hT : PT env) (he : EvX K W env te m) (hZ : Z.rt = rt := by rfl) : Blk K F0 H0 KP (tRet te Z) env m := fun F H σ S h => by
  subst hZ
  rw [← Res.bind_pure m] at h
  exact he F0 H0 F H σ _ S (L.ke hT S h fun x v F1 H1 e1 a1 r1 h1 => L.ok x h1 v F1 H1 (S.adv.trans a1) r1)
/-- a value of another type is handed back -/
theorem blk_retAs {m : Res α} {f : α → τ} (L : Lk K W F0 H0 rt PT KP) (hT : PT env) (he : EvX K W env te m) (hf : ∀ x, toD (f x) = toD x) (hZ : Z.rt = rt := by rfl) : Blk K F0 H0 KP (tRet te Z) env (m.bind fun x => .ok (f x)) := fun F H σ S h => by
  subst hZ
  exact he F0 H0 F H σ _ S (L.ke hT S h fun x v F1 H1 e1 a1 r1 h1 => L.ok (f x) h1 v F1 H1 (S.adv.trans a1) (by rw [hf]; exact r1))
theorem blk_retN {x : τ} (L : Lk K W F0 H0 rt PT KP) (hx : toD x = .non) (hZ : Z.rt = rt := by rfl) : Blk K F0 H0 KP (tRetN Z) env (.ok x) := fun F H σ S h => by
  subst hZ
  exact L.ok x h .non F H S.adv (by rw [hx]; rfl)
theorem blk_expr {m : Res α} {f : α → Res τ} (L : Lk K W F0 H0 rt PT KP) (hT : PT env) (he : EvX K W env te m) (k : ∀ x, Blk K F0 H0 KP Z.nx env (f x)) : Blk K F0 H0 KP (tDrop te Z) env (m.bind f) := fun F H σ S h =>
  he F0 H0 F H σ _ S (L.ke hT S h fun x v F1 H1 e1 a1 r1 h1 => k x F1 H1 σ (S.step a1) h1)
/-- raise X('..') -/
theorem blk_raise {c : Str} (L : Lk K W F0 H0 rt PT KP) (hT : PT env) : Blk K F0 H0 KP (fun σ H => W (.ref (He.ga K c)) none σ H) env (.exc c) := fun F H σ S h => L.exc c F H σ env h hT S
theorem blk_raise1 {c : Str} {m : Res α} (L : Lk K W F0 H0 rt PT KP) (hT : PT env) (he : EvX K W env te m) : Blk K F0 H0 KP (fun σ H => te σ H fun _ H1 => W (.ref (He.ga K c)) none σ H1) env (m.bind fun _ => .exc c) := fun F H σ S h =>
  he F0 H0 F H σ _ S (L.ke hT S h fun x v F1 H1 e1 a1 r1 h1 => L.exc c F1 H1 σ env h1 hT (S.step a1))
/-- a, b = e1, e2 -/
theorem blk_par {i j : Nat} {m1 : Res α} {m2 : Res β} {f : α → β → Res τ} (L : Lk K W F0 H0 rt PT KP) (hT : PT env) (h1 : EvX K W env ta m1) (h2 : EvX K W env tb m2)
    (k : ∀ x y, Blk K F0 H0 KP Z.nx ((env.set i (some (.im (toD x)))).set j (some (.im (toD y)))) (f x y)) : Blk K F0 H0 KP (tPar i j (tCons ta (tCons tb tNil)) Z) env (m1.bind fun x => m2.bind fun y => f x y) := fun F H σ S h => by
  refine h1 F0 H0 F H σ _ S (L.ke hT S h fun x v F1 H1 e1 a1 r1 k1 => ?_)
  refine h2 F0 H0 F1 H1 σ _ (S.step a1) (L.ke hT (S.step a1) k1 fun y w F2 H2 e2 a2 r2 k2 => ?_)
  refine ⟨v, w, rfl, ?_⟩
  exact k x y F2 H2 _ ((((S.step a1).step a2).setIm (Rep.mono a2.f _ _ r1)).setIm r2) k2
/-- x op= e -/
theorem blk_aug {i : Nat} {x : Int} {m : Res Int} {f : Int → Res τ} {g : Int → Int → Int} (L : Lk K W F0 H0 rt PT KP) (hT : PT env) (hx : env[i]? = some (some (.im (.int x)))) (he : EvX K W env te m)
    (k : ∀ y, Blk K F0 H0 KP Z.nx (env.set i (some (.im (.int (g x y))))) (f y)) : Blk K F0 H0 KP (tAug i te (ipI g) Z) env (m.bind f) := fun F H σ S h => by
  obtain ⟨v, e, q⟩ := S.slot i _ hx
  cases (show v = V.int x from q)
  refine ⟨_, e, he F0 H0 F H σ _ S (L.ke hT S h fun y w F1 H1 e1 a1 r1 k1 => ?_)⟩
  exact ⟨x, y, rfl, r1, k y F1 H1 _ ((S.step a1).setIm rfl) k1⟩
theorem blk_augR {i : Nat} {x : α} {m : Res β} {f : γ → Res τ} {r : R2} {g : α → β → Res γ} (L : Lk K W F0 H0 rt PT KP) (hT : PT env) (hx : env[i]? = some (some (.im (toD x)))) (ho : OpX K r g) (hm : Mild g) (he : EvX K W env te m)
    (k : ∀ z, Blk K F0 H0 KP Z.nx (env.set i (some (.im (toD z)))) (f z)) : Blk K F0 H0 KP (tAug i te r Z) env (m.bind fun y => (g x y).bind f) := fun F H σ S h => by
  obtain ⟨v, e, q⟩ := S.slot i _ hx
  refine ⟨_, e, he F0 H0 F H σ _ S (L.ke hT S h fun y w F1 H1 e1 a1 r1 k1 => ?_)⟩
  refine ho F1 H1 x y v w _ a1.in_ (Rep.mono a1.f _ _ q) r1 ?_
  refine KE.mild (W := W) (σ := σ) (hm x y) ?_
  exact L.ke hT (S.step a1) k1 fun z u F2 H2 e2 a2 r2 k2 => k z F2 H2 _ (((S.step a1).step a2).setIm r2) k2

/-! ### loops -/
structure JS (K : PySem.W.Frag) (F : Hp) (J : It) (xs : List D) : Prop where
  go : ∀ i H, Ex F H → i < xs.length → J.go i H
  stop : ∀ i H, Ex F H → xs.length ≤ i → J.stop i H
  yld : ∀ i H v H' F1, Ex F F1 → Ex F1 H → i < xs.length → J.yld i H v H' → ∃ F2 x, Adv F1 H F2 H' ∧ xs[i]? = some x ∧ Rep K F2 x v
def KI (K : PySem.W.Frag) (W : WX) (F H : Hp) (σ : L2.St) {α : Type} [ToD α] (R : It → Hp → Prop) : Res (List α) → Prop
  | .ok xs => ∀ J F' H', Adv F H F' H' → JS K F' J (xs.map toD) → R J H'
  | .exc c => ∀ F' H', Adv F H F' H' → W (.ref (He.ga K c)) none σ H'
  | .stuck => False
def EvI (K : PySem.W.Frag) (W : WX) (env : En) (wi : TI) {α : Type} [ToD α] (m : Res (List α)) : Prop :=
  ∀ F0 H0 F H σ R, Sl K F0 H0 F H σ env → KI K W F H σ R m → wi σ H R
theorem Lk.ki (L : Lk K W F0 H0 rt PT KP) (hT : PT env) {σ : L2.St} (S : Sl K F0 H0 F H σ env) {m : Res (List α)} {f : List α → Res τ} (h : KP (m.bind f)) {R : It → Hp → Prop}
    (k : ∀ xs J F' H', m = .ok xs → Adv F H F' H' → JS K F' J (xs.map toD) → KP (f xs) → R J H') : KI K W F H σ R m := by
  cases m with
  | ok x => exact fun J F' H' a h1 => k x J F' H' rfl a h1 h
  | exc c => exact fun F' H' a => L.exc c F' H' σ env h hT (S.step a)
  | stuck => exact (L.no h).elim
theorem js_list {a : Addr} {vs : List V} {xs : List D} (hl : SqL K F a vs) (hr : Reps K F xs vs) : JS K F (Itl K a) xs := by
  have hn := hr.length
  refine ⟨fun i H e hi => ?_, fun i H e hi => ?_, fun i H v H' F1 e1 e2 hi hy => ?_⟩
  · exact ⟨vs, vs[i]'(by omega), Evl.ex_l e hl, List.getElem?_eq_getElem (by omega)⟩
  · exact ⟨vs, Evl.ex_l e hl, by omega⟩
  · obtain ⟨e, f⟩ := hy
    subst e
    have g := f vs (Evl.ex_l (e1.trans e2) hl)
    obtain ⟨w, q1, q2⟩ := hr.get (i := i) (e := xs[i]) (List.getElem?_eq_getElem hi)
    rw [g] at q1; cases q1
    exact ⟨F1, xs[i], Adv.refl e2, List.getElem?_eq_getElem hi, Rep.mono e1 _ _ q2⟩
theorem js_tup {a : Addr} {vs : List V} {xs : List D} (hl : SqT K F a vs) (hr : Reps K F xs vs) : JS K F (Itt K a) xs := by
  have hn := hr.length
  refine ⟨fun i H e hi => ?_, fun i H e hi => ?_, fun i H v H' F1 e1 e2 hi hy => ?_⟩
  · exact ⟨vs, vs[i]'(by omega), Evl.ex_t e hl, List.getElem?_eq_getElem (by omega)⟩
  · exact ⟨vs, Evl.ex_t e hl, by omega⟩
  · obtain ⟨e, f⟩ := hy
    subst e
    have g := f vs (Evl.ex_t (e1.trans e2) hl)
    obtain ⟨w, q1, q2⟩ := hr.get (i := i) (e := xs[i]) (List.getElem?_eq_getElem hi)
    rw [g] at q1; cases q1
    exact ⟨F1, xs[i], Adv.refl e2, List.getElem?_eq_getElem hi, Rep.mono e1 _ _ q2⟩
theorem ei_list {m : Res (List α)} (h : EvX K W env te m) : EvI K W env (iList K te) m := fun F0 H0 F H σ R S k => by
  refine h F0 H0 F H σ _ S ?_
  cases m with
  | ok xs =>
    intro v F1 H1 a r
    obtain ⟨p, vs, rfl, h1, h2⟩ := r
    exact ⟨p, rfl, ⟨vs, Evl.ex_l a.in_ h1⟩, k _ F1 H1 a (js_list h1 h2)⟩
  | exc c => exact k
  | stuck => exact k.elim
theorem ei_tup {m : Res (Tu α)} (h : EvX K W env te m) : EvI K W env (iTup K te) (m.bind fun x => .ok x.xs) := fun F0 H0 F H σ R S k => by
  refine h F0 H0 F H σ _ S ?_
  cases m with
  | ok xs =>
    intro v F1 H1 a r
    obtain ⟨p, vs, rfl, h1, h2⟩ := r
    exact ⟨p, rfl, ⟨vs, Evl.ex_t a.in_ h1⟩, k _ F1 H1 a (js_tup h1 h2)⟩
  | exc c => exact k
  | stuck => exact k.elim
def pyRange (lo hi : Int) : List Int := (List.range (hi - lo).toNat).map fun (i : Nat) => lo + (i : Int)
theorem pyRange_len (lo hi : Int) : (pyRange lo hi).length = (hi - lo).toNat := by simp [pyRange]
theorem pyRange_get {lo hi : Int} {i : Nat} (h : i < (hi - lo).toNat) : (pyRange lo hi)[i]? = some (lo + (i : Int)) := by
  simp [pyRange, h]
theorem js_range {lo hi : Int} : JS K F (Itr lo (hi - lo).toNat) ((pyRange lo hi).map toD) := by
  refine ⟨fun i H e h => ?_, fun i H e h => ?_, fun i H v H' F1 e1 e2 h hy => ?_⟩
  · rw [List.length_map, pyRange_len] at h; exact h
  · rw [List.length_map, pyRange_len] at h; exact h
  · rw [List.length_map, pyRange_len] at h
    obtain ⟨e, q⟩ := hy
    subst e q
    exact ⟨F1, .int (lo + (i : Int)), Adv.refl e2, by rw [List.getElem?_map, pyRange_get h]; rfl, rfl⟩
abbrev okRange (i : Int) : Prop := -(2 ^ 62) ≤ i ∧ i < 2 ^ 62
theorem ei_range1 {m : Res Int} (h : EvX K W env te m) : EvI K W env (iRng1 (tCons te tNil)) (m.bind fun j => .need (okRange j) (.ok (pyRange 0 j))) := fun F0 H0 F H σ R S k => by
  refine h F0 H0 F H σ _ S ?_
  cases m with
  | ok j =>
    intro v F1 H1 a r
    cases (show v = V.int j from r)
    have k : KI K W F H σ R (.need (okRange j) (.ok (pyRange 0 j))) := k
    by_cases c : okRange j
    · rw [Res.need_pos c] at k
      refine ⟨j, rfl, c.1, c.2, k _ F1 H1 a ?_⟩
      have := js_range (K := K) (F := F1) (lo := 0) (hi := j)
      rw [Int.sub_zero] at this
      exact this
    · rw [Res.need_neg c] at k; exact k.elim
  | exc c => exact k
  | stuck => exact k.elim
theorem ei_range2 {m1 m2 : Res Int} (h1 : EvX K W env ta m1) (h2 : EvX K W env tb m2) : EvI K W env (iRng2 (tCons ta (tCons tb tNil))) (m1.bind fun i => m2.bind fun j => .need (okRange i ∧ okRange j) (.ok (pyRange i j))) := fun F0 H0 F H σ R S k => by
  refine h1 F0 H0 F H σ _ S ?_
  cases m1 with
  | ok i =>
    intro v F1 H1 a r
    cases (show v = V.int i from r)
    refine h2 F0 H0 F1 H1 σ _ (S.step a) ?_
    have k : KI K W F H σ R (m2.bind fun j => .need (okRange i ∧ okRange j) (.ok (pyRange i j))) := k
    cases m2 with
    | ok j =>
      intro v F2 H2 a2 r
      cases (show v = V.int j from r)
      have k : KI K W F H σ R (.need (okRange i ∧ okRange j) (.ok (pyRange i j))) := k
      by_cases c : okRange i ∧ okRange j
      · rw [Res.need_pos c] at k
        exact ⟨i, j, rfl, ⟨c.1.1, c.1.2, c.2.1, c.2.2⟩, k _ F2 H2 (a.trans a2) js_range⟩
      · rw [Res.need_neg c] at k; exact k.elim
    | exc c => exact fun F2 H2 a2 => k F2 H2 (a.trans a2)
    | stuck => exact k.elim
  | exc c => exact k
  | stuck => exact k.elim
/-- range(i, j, -1) -/
def pyDown (i j : Int) : List Int := (List.range (i - j).toNat).map fun (a : Nat) => i - (a : Int)
theorem pyDown_len (lo hi : Int) : (pyDown lo hi).length = (lo - hi).toNat := by simp [pyDown]
theorem pyDown_get {lo hi : Int} {i : Nat} (h : i < (lo - hi).toNat) : (pyDown lo hi)[i]? = some (lo - (i : Int)) := by
  simp [pyDown, h]
theorem js_down {lo hi : Int} : JS K F (Itc lo (-1) (lo - hi).toNat) ((pyDown lo hi).map toD) := by
  refine ⟨fun i H e h => ?_, fun i H e h => ?_, fun i H v H' F1 e1 e2 h hy => ?_⟩
  · rw [List.length_map, pyDown_len] at h; exact h
  · rw [List.length_map, pyDown_len] at h; exact h
  · rw [List.length_map, pyDown_len] at h
    obtain ⟨e, q⟩ := hy
    subst e q
    refine ⟨F1, .int (lo - (i : Int)), Adv.refl e2, by rw [List.getElem?_map, pyDown_get h]; rfl, ?_⟩
    show V.int _ = V.int _
    congr 1; omega
theorem ei_down {m1 m2 : Res Int} (h1 : EvX K W env ta m1) (h2 : EvX K W env tb m2) (h3 : EvX K W env tc (.ok (-1 : Int))) : EvI K W env (iRng3 (tCons ta (tCons tb (tCons tc tNil)))) (m1.bind fun i => m2.bind fun j => .need (okRange i ∧ okRange j) (.ok (pyDown i j))) := fun F0 H0 F H σ R S k => by
  refine h1 F0 H0 F H σ _ S ?_
  cases m1 with
  | ok i =>
    intro v F1 H1 a r
    cases (show v = V.int i from r)
    refine h2 F0 H0 F1 H1 σ _ (S.step a) ?_
    have k : KI K W F H σ R (m2.bind fun j => .need (okRange i ∧ okRange j) (.ok (pyDown i j))) := k
    cases m2 with
    | ok j =>
      intro v F2 H2 a2 r
      cases (show v = V.int j from r)
      refine h3 F0 H0 F2 H2 σ _ ((S.step a).step a2) fun v F3 H3 a3 r => ?_
      cases (show v = V.int (-1) from r)
      have k : KI K W F H σ R (.need (okRange i ∧ okRange j) (.ok (pyDown i j))) := k
      by_cases c : okRange i ∧ okRange j
      · rw [Res.need_pos c] at k
        exact ⟨i, j, -1, (i - j).toNat, rfl, RgC.neg c.1.1 c.1.2 c.2.1 c.2.2, k _ F3 H3 ((a.trans a2).trans a3) js_down⟩
      · rw [Res.need_neg c] at k; exact k.elim
    | exc c => exact fun F2 H2 a2 => k F2 H2 (a.trans a2)
    | stuck => exact k.elim
  | exc c => exact k
  | stuck => exact k.elim

theorem blk_for {S : Type} {wi : TI} {g : TG} {tb : TS} {m : Res (List α)} {fe : α → En → En} {ws : List Nat} (loop : List α → S → Res τ) (k : S → Res τ) (envS : S → En) (s0 : S)
    (L : Lk K W F0 H0 rt PT KP) (hT : PT env) (hi : EvI K W env wi m) (hg : ∀ x, GX K g (toD x) (fe x) ws) (h0 : EnLe env (envS s0)) (hnil : ∀ s, loop [] s = k s)
    (hbody : ∀ F1, Lk K W F1 H0 rt PT KP → (∀ s, Blk K F1 H0 KP Z.nx (envS s) (k s)) → ∀ x r s (N : L2.St → Hp → Prop), (∀ s', Blk K F1 H0 KP N (envS s') (loop r s')) →
      Blk K F1 H0 KP (tb { Z with nx := N, ct := N, bk := Z.nx }) (fe x (envS s)) (loop (x :: r) s))
    (hrest : ∀ s, Blk K F0 H0 KP Z.nx (envS s) (k s)) : Blk K F0 H0 KP (tFor wi g tb Z) env (m.bind fun xs => loop xs s0) := fun F H σ S h => by
  refine hi F0 H0 F H σ _ S (L.ki hT S h fun xs J F1 H1 e1 a1 js h1 => ?_)
  have S1 := (S.step a1).weak h0
  have S11 : Sl K F1 H0 F1 H1 σ (envS s0) := ⟨⟨Ex.refl _, S1.adv.h, S1.adv.in_, fun p q _ => q⟩, S1.slot, S1.dis, S1.len⟩
  have hB := hbody F1 (L.base S1) (fun s => (hrest s).base S1)
  have hn : (xs.map toD).length = xs.length := List.length_map ..
  refine ⟨fun i m σ H => m = xs.length - i ∧ i ≤ xs.length ∧ ∃ F s, Sl K F1 H0 F H σ (envS s) ∧ KP (loop (xs.drop i) s), ⟨xs.length, rfl, Nat.zero_le _, F1, s0, S11, h1⟩, ?_⟩
  rintro i m σ H ⟨rfl, hle, F, s, S, h⟩
  by_cases hlt : i < xs.length
  · refine .inr ⟨js.go i H (S.adv.f.trans S.ex) (by rw [hn]; exact hlt), fun σ' H' => ∃ F s, Sl K F1 H0 F H' σ' (envS s) ∧ KP (loop (xs.drop (i + 1)) s), fun σ' H' w => ⟨_, by omega, rfl, hlt, w⟩, fun v H' hy => ?_⟩
    obtain ⟨F2, x, a2, ex, rx⟩ := js.yld i H v H' F S.adv.f S.ex (by rw [hn]; exact hlt) hy
    rw [List.getElem?_map, List.getElem?_eq_getElem hlt] at ex
    cases ex
    refine hg xs[i] F1 H0 F2 H' σ (envS s) v _ (S.step a2) rx fun σ' S' _ _ => ?_
    have e : xs.drop i = xs[i] :: xs.drop (i + 1) := List.drop_eq_getElem_cons hlt
    rw [e] at h
    exact hB xs[i] (xs.drop (i + 1)) s _ (fun s' F H σ S h => ⟨F, s', S, h⟩) F2 H' σ' S' h
  · have e : xs.drop i = [] := List.drop_of_length_le (by omega)
    rw [e, hnil] at h
    exact .inl ⟨js.stop i H (S.adv.f.trans S.ex) (by rw [hn]; omega), (hrest s).base S1 F H σ S h⟩
theorem blk_while {S : Type} {tb : TS} (loop : Nat → S → Res τ) (test : S → Res Bool) (body : Nat → S → Res τ) (k : S → Res τ) (envS : S → En) (s0 : S) (fuel : Nat)
    (L : Lk K W F0 H0 rt PT KP) (hT : ∀ s, PT (envS s)) (h0 : EnLe env (envS s0)) (hc : ∀ s, EvT K W (envS s) tt (test s)) (l0 : ∀ s, loop 0 s = .stuck) (l1 : ∀ n s, loop (n + 1) s = (test s).bind fun b => cond b (body n s) (k s))
    (hbody : ∀ n s (N : L2.St → Hp → Prop), (∀ s', Blk K F0 H0 KP N (envS s') (loop n s')) → Blk K F0 H0 KP (tb { Z with nx := N, ct := N, bk := Z.nx }) (envS s) (body n s))
    (hrest : ∀ s, Blk K F0 H0 KP Z.nx (envS s) (k s)) : Blk K F0 H0 KP (tWhile tt tb Z) env (loop fuel s0) := fun F H σ S h => by
  refine ⟨fun n σ H => ∃ F s, Sl K F0 H0 F H σ (envS s) ∧ KP (loop n s), ⟨fuel, F, s0, S.weak h0, h⟩, ?_⟩
  rintro n σ H ⟨F, s, S, h⟩
  cases n with
  | zero => rw [l0] at h; exact (L.no h).elim
  | succ n =>
    rw [l1] at h
    refine hc s F0 H0 F H σ _ S (L.kt (hT s) S h fun b F1 H1 e1 a1 h1 => ?_)
    cases b with
    | true =>
      show ∃ N, _
      exact ⟨fun σ' H' => ∃ F s, Sl K F0 H0 F H' σ' (envS s) ∧ KP (loop n s), fun σ' H' w => ⟨n, Nat.lt_succ_self n, w⟩, hbody n s _ (fun s' F H σ S h => ⟨F, s', S, h⟩) F1 H1 σ (S.step a1) h1⟩
    | false => exact hrest s F1 H1 σ (S.step a1) h1

/-! ### comprehensions -/
def compL {α β : Type} (t : α → Res Bool) (e : α → Res β) : List α → Res (List β)
  | [] => .ok []
  | x :: r => (t x).bind fun b => cond b ((e x).bind fun y => (compL t e r).bind fun ys => .ok (y :: ys)) (compL t e r)
def mapL {α β : Type} (e : α → Res β) : List α → Res (List β)
  | [] => .ok []
  | x :: r => (e x).bind fun y => (mapL e r).bind fun ys => .ok (y :: ys)
theorem compL_yes {α β : Type} (e : α → Res β) : ∀ xs : List α, compL (fun _ => .ok true) e xs = mapL e xs
  | [] => rfl
  | x :: r => by
    show (e x).bind _ = (e x).bind _
    rw [compL_yes e r]
end
end Mi
set_option maxHeartbeats 1000000
namespace Mi
open PySem PySem.Spec L2
open Evl (Ex)
section
variable {K : PySem.W.Frag} {W : WX} {F0 H0 F H F' H' F1 : Hp} {rt : VK} {PT : En → Prop} {env env' : En} {α β γ τ : Type} [ToD α] [ToD β] [ToD γ] [ToD τ] {KP : Res τ → Prop} {te ta tb tc : TE} {tt : TT} {Z : Ends} {t u : TS} {T : L2.St → Hp → Prop} {σ : L2.St}

/-! ### comprehensions -/
theorem Sl.updN (S : Sl K F0 H0 F H σ env) {p : Addr} {o : HO} (hp : F p = none) (h0 : H0 p = none) (hn : ∀ (i : Nat) (sk : Sk), env[i]? = some (some sk) → sk.own = true → σ[i]? ≠ some (some (V.ref p))) : Sl K F0 H0 F (upd H p o) σ env := by
  refine ⟨⟨S.adv.f, fun a u q => ?_, fun a u q => ?_, S.adv.out⟩, fun j sk q => ?_, S.dis, S.len⟩
  · rw [upd_ne (ne_of_none q h0)]; exact S.adv.h a u q
  · rw [upd_ne (ne_of_none q hp)]; exact S.adv.in_ a u q
  · obtain ⟨w, h1, h2⟩ := S.slot j sk q
    exact ⟨w, h1, h2.updH fun o2 zz => hn j sk q o2 (by rw [h1, zz])⟩
/-- the names of a comprehension are forgotten -/
def unset : List Nat → En → En
  | [], e => e
  | i :: is, e => (unset is e).set i none
theorem unset_len (e : En) : ∀ ws : List Nat, (unset ws e).length = e.length
  | [] => rfl
  | i :: is => by show ((unset is e).set i none).length = _; rw [List.length_set, unset_len e is]
theorem unset_get {e : En} {j : Nat} {sk : Sk} : ∀ {ws : List Nat}, (unset ws e)[j]? = some (some sk) → e[j]? = some (some sk) ∧ j ∉ ws
  | [], h => ⟨h, by simp⟩
  | i :: is, h => by
    have h : ((unset is e).set i none)[j]? = some (some sk) := h
    rcases set_get h with ⟨_, z⟩ | ⟨z, h⟩
    · cases z
    · obtain ⟨h1, h2⟩ := unset_get h
      exact ⟨h1, by simp only [List.mem_cons, not_or]; exact ⟨fun e => z e.symm, h2⟩⟩
theorem Sl.wipe (S : Sl K F0 H0 F H σ env) (ws : List Nat) : Sl K F0 H0 F H (L2.wipe σ ws) (unset ws env) := by
  refine ⟨S.adv, fun i sk e => ?_, fun i j xs ys p hij e1 e2 o1 o2 h1 => ?_, by rw [wipe_length, unset_len]; exact S.len⟩
  · obtain ⟨e, hn⟩ := unset_get e
    rw [wipe_out hn]; exact S.slot i sk e
  · obtain ⟨e1, n1⟩ := unset_get e1
    obtain ⟨e2, n2⟩ := unset_get e2
    rw [wipe_out n1] at h1
    rw [wipe_out n2]
    exact S.dis i j xs ys p hij e1 e2 o1 o2 h1
theorem wipe_in {j : Nat} : ∀ {ws : List Nat}, j ∈ ws → j < σ.length → (L2.wipe σ ws)[j]? = some none
  | [], h, _ => by cases h
  | i :: is, h, hl => by
    show ((L2.wipe σ is).set i none)[j]? = some none
    by_cases e : i = j
    · subst e
      rw [List.getElem?_set_self (by rw [wipe_length]; exact hl)]
    · rw [List.getElem?_set_ne e]
      rcases List.mem_cons.mp h with z | z
      · exact absurd z.symm e
      · exact wipe_in z hl
theorem wipe_eq {σ' : L2.St} {ws : List Nat} (hl : σ'.length = (L2.wipe σ ws).length) (ho : ∀ j, j ∉ ws → σ'[j]? = (L2.wipe σ ws)[j]?) : L2.wipe σ' ws = L2.wipe σ ws := by
  rw [wipe_length] at hl
  apply List.ext_getElem?
  intro j
  by_cases hj : j ∈ ws
  · by_cases hlt : j < σ.length
    · rw [wipe_in hj hlt, wipe_in hj (by rw [hl]; exact hlt)]
    · rw [List.getElem?_eq_none (by rw [wipe_length]; omega), List.getElem?_eq_none (by rw [wipe_length]; omega)]
  · rw [wipe_out hj, ho j hj]
abbrev WT : WX := fun _ _ _ _ => True
theorem ev_comp {wi : TI} {g : TG} {m : Res (List α)} {fe : α → En → En} {ws : List Nat} {tst : α → Res Bool} {el : α → Res β} (hi : EvI K W env wi m) (hg : ∀ x, GX K g (toD x) (fe x) ws)
    (ht : ∀ x, EvT K WT (fe x (unset ws env)) tt (tst x)) (he : ∀ x, EvX K WT (fe x (unset ws env)) te (el x)) :
    EvN K W env (tLc wi g tt te ws) (m.bind fun xs => .need (xs.length ≤ 16777216) (compL tst el xs)) := fun F0 H0 F H σ Q S k => by
  refine hi F0 H0 F H σ _ S ?_
  cases m with
  | exc c => exact k
  | stuck => exact k.elim
  | ok xs =>
  intro J F1 H1 a1 js D hD
  have k : KN K W F H σ Q (.need (xs.length ≤ 16777216) (compL tst el xs)) := k
  by_cases c : xs.length ≤ 16777216
  case neg => rw [Res.need_neg c] at k; exact k.elim
  rw [Res.need_pos c] at k
  have hn : (xs.map toD).length = xs.length := List.length_map ..
  have hDF : F1 D = none := none_of_ex a1.in_ hD
  have hDH : H D = none := Evl.fresh_back a1.h hD
  have hD0 : H0 D = none := Evl.fresh_back S.adv.h hDH
  -- the new list is none of the slots'
  have hne : ∀ (i : Nat) (sk : Sk), env[i]? = some (some sk) → sk.own = true → σ[i]? ≠ some (some (V.ref D)) := fun i sk e ho z => by
    obtain ⟨v, e1, q⟩ := S.slot i _ e
    obtain ⟨p, o, rfl, _, _, q⟩ := q.at ho
    rw [e1] at z; cases z
    rw [hDH] at q; cases q
  have S1 : Sl K F0 H0 F1 (upd H1 D (.lst [])) σ env := (S.step a1).updN hDF hD0 hne
  refine ⟨fun i n H' => n = xs.length - i ∧ i ≤ xs.length ∧ ∃ F' acc vs, Sl K F0 H0 F' H' σ env ∧ Adv F H F' H' ∧ Ex F1 F' ∧ F' D = none ∧ H' D = some (.lst vs) ∧ Reps K F' (acc.map toD) vs ∧ acc.length ≤ i ∧
    (∀ ys, compL tst el (xs.drop i) = .ok ys → compL tst el xs = .ok (acc ++ ys)) ∧ (∀ c, compL tst el (xs.drop i) = .exc c → compL tst el xs = .exc c) ∧ (compL tst el (xs.drop i) = .stuck → compL tst el xs = .stuck),
    ⟨xs.length, rfl, Nat.zero_le _, F1, ([] : List β), [], S1, a1.trans (Adv.newO a1.in_ hD), Ex.refl _, hDF, upd_same, (show Reps K F1 [] [] from rfl), Nat.le_refl _, fun ys h => h, fun c h => h, fun h => h⟩, ?_⟩
  rintro i n H2 ⟨rfl, hle, F2, acc, vs, S2, a2, x2, f2, h2, r2, l2, q1, q2, q3⟩
  by_cases hlt : i < xs.length
  · refine .inr ⟨js.go i H2 (x2.trans a2.in_) (by rw [hn]; exact hlt), fun H' => (i + 1 ≤ xs.length ∧ ∃ F' acc vs, Sl K F0 H0 F' H' σ env ∧ Adv F H F' H' ∧ Ex F1 F' ∧ F' D = none ∧ H' D = some (.lst vs) ∧ Reps K F' (acc.map toD) vs ∧ acc.length ≤ i + 1 ∧
      (∀ ys, compL tst el (xs.drop (i + 1)) = .ok ys → compL tst el xs = .ok (acc ++ ys)) ∧ (∀ c, compL tst el (xs.drop (i + 1)) = .exc c → compL tst el xs = .exc c) ∧ (compL tst el (xs.drop (i + 1)) = .stuck → compL tst el xs = .stuck)),
      fun H' w => ⟨_, by omega, rfl, w⟩, fun v H3 hy => ?_⟩
    obtain ⟨F3, x, a3, ex, rx⟩ := js.yld i H2 v H3 F2 x2 a2.in_ (by rw [hn]; exact hlt) hy
    rw [List.getElem?_map, List.getElem?_eq_getElem hlt] at ex
    cases ex
    have e : xs.drop i = xs[i] :: xs.drop (i + 1) := List.drop_eq_getElem_cons hlt
    rw [e] at q1 q2 q3
    have S3 := S2.step a3
    refine hg xs[i] F0 H0 F3 H3 _ _ v _ (S3.wipe ws) rx fun σ' S' sl so => ⟨wipe_eq sl so, ?_⟩
    have f3 : F3 D = none := a3.out D f2 (by rw [h2]; simp)
    refine ht xs[i] F0 H0 F3 H3 σ' _ S' ?_
    cases qt : tst xs[i] with
    | exc c => exact fun _ _ _ => trivial
    | stuck =>
      have := q3 (by show (tst xs[i]).bind _ = _; rw [qt]; rfl)
      rw [this] at k; exact k.elim
    | ok b =>
    intro F4 H4 a4
    have f4 : F4 D = none := a4.out D f3 (by rw [a3.h _ _ h2]; simp)
    cases b with
    | false =>
      show i + 1 ≤ xs.length ∧ _
      refine ⟨hlt, F4, acc, vs, S3.step a4, (a2.trans a3).trans a4, (x2.trans a3.f).trans a4.f, f4, a4.h _ _ (a3.h _ _ h2), Reps.mono (a3.trans a4).f _ _ r2, by omega, fun ys h => ?_, fun c h => ?_, fun h => ?_⟩
      · exact q1 ys (by show (tst xs[i]).bind _ = _; rw [qt]; exact h)
      · exact q2 c (by show (tst xs[i]).bind _ = _; rw [qt]; exact h)
      · exact q3 (by show (tst xs[i]).bind _ = _; rw [qt]; exact h)
    | true =>
      show te σ' H4 _
      refine he xs[i] F0 H0 F4 H4 σ' _ (S'.step a4) ?_
      cases qe : el xs[i] with
      | exc c => exact fun _ _ _ => trivial
      | stuck =>
        have := q3 (by show (tst xs[i]).bind _ = _; rw [qt]; show (el xs[i]).bind _ = _; rw [qe]; rfl)
        rw [this] at k; exact k.elim
      | ok y =>
      intro w F5 H5 a5 r5
      have f5 : F5 D = none := a5.out D f4 (by rw [a4.h _ _ (a3.h _ _ h2)]; simp)
      have h5 : H5 D = some (.lst vs) := a5.h _ _ (a4.h _ _ (a3.h _ _ h2))
      have ad := ((a2.trans a3).trans a4).trans a5
      refine ⟨vs, h5, by rw [sizeLine_eq, ← r2.length, List.length_map]; omega, hlt, F5, acc ++ [y], vs ++ [w], ((S3.step a4).step a5).updN f5 hD0 hne, ⟨ad.f, fun a u q => ?_, fun a u q => ?_, ad.out⟩,
        ((x2.trans a3.f).trans a4.f).trans a5.f, f5, upd_same, ?_, by rw [List.length_append]; simp; omega, fun ys h => ?_, fun c h => ?_, fun h => ?_⟩
      · rw [upd_ne (ne_of_none q hDH)]; exact ad.h a u q
      · rw [upd_ne (ne_of_none q f5)]; exact ad.in_ a u q
      · rw [List.map_append]
        exact Reps.append (Reps.mono ((a3.trans a4).trans a5).f _ _ r2) (Reps.one r5)
      · rw [q1 (y :: ys) (by show (tst xs[i]).bind _ = _; rw [qt]; show (el xs[i]).bind _ = _; rw [qe]; show (compL tst el _).bind _ = _; rw [h]; rfl)]
        rw [List.append_assoc]; rfl
      · exact q2 c (by show (tst xs[i]).bind _ = _; rw [qt]; show (el xs[i]).bind _ = _; rw [qe]; show (compL tst el _).bind _ = _; rw [h]; rfl)
      · exact q3 (by show (tst xs[i]).bind _ = _; rw [qt]; show (el xs[i]).bind _ = _; rw [qe]; show (compL tst el _).bind _ = _; rw [h]; rfl)
  · have e : xs.drop i = [] := List.drop_of_length_le (by omega)
    rw [e] at q1
    have := q1 [] rfl
    rw [List.append_nil] at this
    rw [this] at k
    exact .inl ⟨js.stop i H2 (x2.trans a2.in_) (by rw [hn]; omega), k D vs F2 H2 a2 hDH f2 h2 r2⟩
theorem et_yes : EvT K W env tYes (.ok true) := fun F0 H0 F H σ Q S k => k F H (Adv.refl S.ex)

/-! ### built-in defs -/
theorem cx_len : CrX K (fun xs H Q => ∃ p ys, xs = [.ref p] ∧ (SqL K H p ys ∨ SqT K H p ys) ∧ Q (.int ys.length) H) (fun (p : List α × Unit) => .ok (p.1.length : Int)) := fun F H x vs Q e r k => by
  obtain ⟨v, r1, rfl, ⟨a, ws, rfl, hl, hr⟩, h2⟩ := r
  cases (show r1 = [] from h2)
  refine ⟨a, ws, rfl, .inl (Evl.ex_l e hl), ?_⟩
  rw [← hr.length, List.length_map]
  exact k _ F H (Adv.refl e) rfl
theorem cx_lenT {n : Nat} (hn : ∀ x : α, ∃ ds, toD x = .tup ds ∧ ds.length = n) : CrX K (fun xs H Q => ∃ p ys, xs = [.ref p] ∧ (SqL K H p ys ∨ SqT K H p ys) ∧ Q (.int ys.length) H) (fun (p : α × Unit) => .ok (n : Int)) := fun F H x vs Q e r k => by
  obtain ⟨v, r1, rfl, hv, h2⟩ := r
  obtain ⟨ds, e1, e2⟩ := hn x.1
  have hv : Rep K F (toD x.1) v := hv
  rw [e1] at hv
  obtain ⟨a, ws, rfl, hl, hr⟩ := hv
  cases (show r1 = [] from h2)
  refine ⟨a, ws, rfl, .inr (Evl.ex_t e hl), ?_⟩
  rw [← hr.length, e2]
  exact k _ F H (Adv.refl e) rfl
theorem ev_lenO {j : Nat} {xs : List α} (h : env[j]? = some (some (.ow (xs.map toD)))) : EvX K W env (tCB (fun xs H Q => ∃ p ys, xs = [V.ref p] ∧ (SqL K H p ys ∨ SqT K H p ys) ∧ Q (.int ys.length) H) (tCons (tVar j) tNil)) (.ok (xs.length : Int)) := fun F0 H0 F H σ Q S k => by
  obtain ⟨v, e, p, vs, rfl, h0, hf, hp, hr⟩ := S.slot j _ h
  refine ⟨_, e, p, vs, rfl, .inl (.inl (.inl hp)), ?_⟩
  rw [← hr.length, List.length_map]
  exact k _ F H (Adv.refl S.ex) rfl
theorem cx_abs : CrX K (fun xs H Q => ∃ i, xs = [.int i] ∧ Q (.int (if i < 0 then -i else i)) H) (fun (p : Int × Unit) => .ok (p.1.natAbs : Int)) := fun F H x vs Q e r k => by
  obtain ⟨v, r1, rfl, h1, h2⟩ := r
  cases (show r1 = [] from h2); cases (show v = V.int x.1 from h1)
  refine ⟨x.1, rfl, ?_⟩
  have q : (if x.1 < 0 then -x.1 else x.1) = (x.1.natAbs : Int) := by split <;> omega
  rw [q]
  exact k _ F H (Adv.refl e) rfl
theorem cx_max : CrX K (fun xs H Q => ∃ i j, xs = [.int i, .int j] ∧ Q (.int (if j > i then j else i)) H) (fun (p : Int × Int × Unit) => .ok (max p.1 p.2.1)) := fun F H x vs Q e r k => by
  obtain ⟨v, r1, rfl, h1, w, r2, rfl, h2, h3⟩ := r
  cases (show r2 = [] from h3); cases (show v = V.int x.1 from h1); cases (show w = V.int x.2.1 from h2)
  refine ⟨x.1, x.2.1, rfl, ?_⟩
  have q : (if x.2.1 > x.1 then x.2.1 else x.1) = max x.1 x.2.1 := by split <;> omega
  rw [q]
  exact k _ F H (Adv.refl e) rfl
theorem cx_min : CrX K (fun xs H Q => ∃ i j, xs = [.int i, .int j] ∧ Q (.int (if j < i then j else i)) H) (fun (p : Int × Int × Unit) => .ok (min p.1 p.2.1)) := fun F H x vs Q e r k => by
  obtain ⟨v, r1, rfl, h1, w, r2, rfl, h2, h3⟩ := r
  cases (show r2 = [] from h3); cases (show v = V.int x.1 from h1); cases (show w = V.int x.2.1 from h2)
  refine ⟨x.1, x.2.1, rfl, ?_⟩
  have q : (if x.2.1 < x.1 then x.2.1 else x.1) = min x.1 x.2.1 := by split <;> omega
  rw [q]
  exact k _ F H (Adv.refl e) rfl
theorem cx_int : CrX K (fun xs H Q => (∃ i, xs = [.int i] ∧ Q (.int i) H) ∨ ∃ k, xs = [.bl k] ∧ Q (.int (if k then 1 else 0)) H) (fun (p : Int × Unit) => .ok p.1) := fun F H x vs Q e r k => by
  obtain ⟨v, r1, rfl, h1, h2⟩ := r
  cases (show r1 = [] from h2); cases (show v = V.int x.1 from h1)
  exact .inl ⟨x.1, rfl, k _ F H (Adv.refl e) rfl⟩
theorem cx_intB : CrX K (fun xs H Q => (∃ i, xs = [.int i] ∧ Q (.int i) H) ∨ ∃ k, xs = [.bl k] ∧ Q (.int (if k then 1 else 0)) H) (fun (p : Bool × Unit) => .ok (if p.1 = true then (1 : Int) else 0)) := fun F H x vs Q e r k => by
  obtain ⟨v, r1, rfl, h1, h2⟩ := r
  cases (show r1 = [] from h2); cases (show v = V.bl x.1 from h1)
  exact .inr ⟨x.1, rfl, k _ F H (Adv.refl e) rfl⟩
/-- the greatest, the least of a list that is not empty -/
def lmax : List Int → Int
  | [] => 0
  | x :: r => r.foldl max x
def lmin : List Int → Int
  | [] => 0
  | x :: r => r.foldl min x
theorem foldl_max_ge (r : List Int) : ∀ x, x ≤ r.foldl max x ∧ ∀ y ∈ r, y ≤ r.foldl max x := by
  induction r with
  | nil => intro x; exact ⟨Int.le_refl _, fun y h => by cases h⟩
  | cons a r ih =>
    intro x
    obtain ⟨h1, h2⟩ := ih (max x a)
    refine ⟨by have : x ≤ max x a := Int.le_max_left ..; exact Int.le_trans this h1, fun y hy => ?_⟩
    rcases List.mem_cons.mp hy with rfl | hy
    · exact Int.le_trans (Int.le_max_right ..) h1
    · exact h2 y hy
theorem foldl_max_mem (r : List Int) : ∀ x, r.foldl max x = x ∨ r.foldl max x ∈ r := by
  induction r with
  | nil => intro x; exact .inl rfl
  | cons a r ih =>
    intro x
    rcases ih (max x a) with h | h
    · show List.foldl max (max x a) r = x ∨ List.foldl max (max x a) r ∈ _
      rw [h]
      by_cases c : x ≤ a
      · rw [Int.max_eq_right c]; exact .inr List.mem_cons_self
      · rw [Int.max_eq_left (by omega)]; exact .inl rfl
    · exact .inr (List.mem_cons_of_mem _ h)
theorem foldl_min_le (r : List Int) : ∀ x, r.foldl min x ≤ x ∧ ∀ y ∈ r, r.foldl min x ≤ y := by
  induction r with
  | nil => intro x; exact ⟨Int.le_refl _, fun y h => by cases h⟩
  | cons a r ih =>
    intro x
    obtain ⟨h1, h2⟩ := ih (min x a)
    refine ⟨by have : min x a ≤ x := Int.min_le_left ..; exact Int.le_trans h1 this, fun y hy => ?_⟩
    rcases List.mem_cons.mp hy with rfl | hy
    · exact Int.le_trans h1 (Int.min_le_right ..)
    · exact h2 y hy
theorem foldl_min_mem (r : List Int) : ∀ x, r.foldl min x = x ∨ r.foldl min x ∈ r := by
  induction r with
  | nil => intro x; exact .inl rfl
  | cons a r ih =>
    intro x
    rcases ih (min x a) with h | h
    · show List.foldl min (min x a) r = x ∨ List.foldl min (min x a) r ∈ _
      rw [h]
      by_cases c : x ≤ a
      · rw [Int.min_eq_left c]; exact .inl rfl
      · rw [Int.min_eq_right (by omega)]; exact .inr List.mem_cons_self
    · exact .inr (List.mem_cons_of_mem _ h)
theorem lmax_spec {ns : List Int} {m : Int} (h1 : m ∈ ns) (h2 : ∀ y ∈ ns, y ≤ m) : m = lmax ns := by
  cases ns with
  | nil => cases h1
  | cons x r =>
    show m = r.foldl max x
    obtain ⟨g1, g2⟩ := foldl_max_ge r x
    have a : m ≤ r.foldl max x := by
      rcases List.mem_cons.mp h1 with rfl | h
      · exact g1
      · exact g2 m h
    have b : r.foldl max x ≤ m := by
      rcases foldl_max_mem r x with e | e
      · rw [e]; exact h2 x List.mem_cons_self
      · exact h2 _ (List.mem_cons_of_mem _ e)
    omega
theorem lmin_spec {ns : List Int} {m : Int} (h1 : m ∈ ns) (h2 : ∀ y ∈ ns, m ≤ y) : m = lmin ns := by
  cases ns with
  | nil => cases h1
  | cons x r =>
    show m = r.foldl min x
    obtain ⟨g1, g2⟩ := foldl_min_le r x
    have a : r.foldl min x ≤ m := by
      rcases List.mem_cons.mp h1 with rfl | h
      · exact g1
      · exact g2 m h
    have b : m ≤ r.foldl min x := by
      rcases foldl_min_mem r x with e | e
      · rw [e]; exact h2 x List.mem_cons_self
      · exact h2 _ (List.mem_cons_of_mem _ e)
    omega
theorem cx_lmax : CrX K (rMax K) (fun (p : List Int × Unit) => .need (0 < p.1.length) (.ok (lmax p.1))) := fun F H x vs Q e r k => by
  obtain ⟨v, r1, rfl, ⟨a, ws, rfl, hl, hr⟩, h2⟩ := r
  cases (show r1 = [] from h2)
  have e2 : ws = x.1.map V.int := Reps.ints hr
  subst e2
  by_cases c : 0 < x.1.length
  · dsimp only at k
    rw [Res.need_pos c] at k
    refine ⟨a, x.1, rfl, Evl.ex_l e hl, c, fun m h1 h2 => ?_⟩
    rw [lmax_spec h1 h2]
    exact k _ F H (Adv.refl e) rfl
  · dsimp only at k; rw [Res.need_neg c] at k; exact k.elim
theorem cx_lmin : CrX K (rMin K) (fun (p : List Int × Unit) => .need (0 < p.1.length) (.ok (lmin p.1))) := fun F H x vs Q e r k => by
  obtain ⟨v, r1, rfl, ⟨a, ws, rfl, hl, hr⟩, h2⟩ := r
  cases (show r1 = [] from h2)
  have e2 : ws = x.1.map V.int := Reps.ints hr
  subst e2
  by_cases c : 0 < x.1.length
  · dsimp only at k
    rw [Res.need_pos c] at k
    refine ⟨a, x.1, rfl, Evl.ex_l e hl, c, fun m h1 h2 => ?_⟩
    rw [lmin_spec h1 h2]
    exact k _ F H (Adv.refl e) rfl
  · dsimp only at k; rw [Res.need_neg c] at k; exact k.elim
theorem cx_sum : CrX K (rSum K) (fun (p : List Int × Unit) => .ok p.1.sum) := fun F H x vs Q e r k => by
  obtain ⟨v, r1, rfl, ⟨a, ws, rfl, hl, hr⟩, h2⟩ := r
  cases (show r1 = [] from h2)
  have e2 : ws = x.1.map V.int := Reps.ints hr
  subst e2
  exact ⟨a, x.1, rfl, Evl.ex_l e hl, k _ F H (Adv.refl e) rfl⟩
theorem cx_all : CrX K (rAll K) (fun (p : List Bool × Unit) => .ok (p.1.all id)) := fun F H x vs Q e r k => by
  obtain ⟨v, r1, rfl, ⟨a, ws, rfl, hl, hr⟩, h2⟩ := r
  cases (show r1 = [] from h2)
  have e2 : ws = x.1.map V.bl := Reps.bls hr
  subst e2
  exact ⟨a, x.1, rfl, Evl.ex_l e hl, k _ F H (Adv.refl e) rfl⟩
theorem cx_any : CrX K (rAny K) (fun (p : List Bool × Unit) => .ok (p.1.any id)) := fun F H x vs Q e r k => by
  obtain ⟨v, r1, rfl, ⟨a, ws, rfl, hl, hr⟩, h2⟩ := r
  cases (show r1 = [] from h2)
  have e2 : ws = x.1.map V.bl := Reps.bls hr
  subst e2
  exact ⟨a, x.1, rfl, Evl.ex_l e hl, k _ F H (Adv.refl e) rfl⟩
/-- list(xs): a new list -/
theorem en_list {m : Res (List α)} (h : EvX K W env te m) : EvN K W env (tCB (fun xs H Q => ∃ p ys, xs = [V.ref p] ∧ (SqL K H p ys ∨ SqT K H p ys) ∧ ∀ l, H l = none → Q (.ref l) (upd H l (.lst ys))) (tCons te tNil)) m := fun F0 H0 F H σ Q S k => by
  refine h F0 H0 F H σ _ S ?_
  cases m with
  | ok xs =>
    intro v F1 H1 a r
    obtain ⟨p, vs, rfl, h1, h2⟩ := r
    exact ⟨p, vs, rfl, .inl (Evl.ex_l a.in_ h1), fun l hl => k l vs F1 _ (a.trans (Adv.newO a.in_ hl)) (Evl.fresh_back a.h hl) (none_of_ex a.in_ hl) upd_same h2⟩
  | exc c => exact k
  | stuck => exact k.elim
theorem en_listT {m : Res (Tu α)} (h : EvX K W env te m) : EvN K W env (tCB (fun xs H Q => ∃ p ys, xs = [V.ref p] ∧ (SqL K H p ys ∨ SqT K H p ys) ∧ ∀ l, H l = none → Q (.ref l) (upd H l (.lst ys))) (tCons te tNil)) (m.bind fun x => .ok x.xs) := fun F0 H0 F H σ Q S k => by
  refine h F0 H0 F H σ _ S ?_
  cases m with
  | ok xs =>
    intro v F1 H1 a r
    obtain ⟨p, vs, rfl, h1, h2⟩ := r
    exact ⟨p, vs, rfl, .inr (Evl.ex_t a.in_ h1), fun l hl => k l vs F1 _ (a.trans (Adv.newO a.in_ hl)) (Evl.fresh_back a.h hl) (none_of_ex a.in_ hl) upd_same h2⟩
  | exc c => exact k
  | stuck => exact k.elim
/-- tuple(xs) of a list -/
theorem ev_tupleL {m : Res (List α)} (h : EvX K W env te m) : EvX K W env (tCB (fun xs H Q => ∃ p ys, xs = [V.ref p] ∧ ((SqL K H p ys ∧ ∀ l, H l = none → Q (.ref l) (upd H l (.tup ys))) ∨ (SqT K H p ys ∧ Q (.ref p) H))) (tCons te tNil)) (m.bind fun x => .ok (Tu.mk x)) := fun F0 H0 F H σ Q S k => by
  refine h F0 H0 F H σ _ S ?_
  cases m with
  | ok xs =>
    intro v F1 H1 a r
    obtain ⟨p, vs, rfl, h1, h2⟩ := r
    refine ⟨p, vs, rfl, .inl ⟨Evl.ex_l a.in_ h1, fun l hl => ?_⟩⟩
    have a2 : Adv F1 H1 (upd F1 l (.tup vs)) (upd H1 l (.tup vs)) := Adv.new a.in_ hl
    exact k _ _ _ (a.trans a2) ⟨l, vs, rfl, .inl (.inl upd_same), Reps.mono a2.f _ _ h2⟩
  | exc c => exact k
  | stuck => exact k.elim
/-- xs[lo:hi] -/
theorem en_slice {m : Res (List α)} {lo hi : Option Int} {tl th : TO} (h : EvX K W env te m) (hl : ∀ σ H Q, Q lo H → tl σ H Q) (hh : ∀ σ H Q, Q hi H → th σ H Q) :
    EvN K W env (tSl (rSlL K) te tl th) (m.bind fun xs => .ok ((xs.drop (HT.sIx xs.length 0 lo)).take (HT.sIx xs.length xs.length hi - HT.sIx xs.length 0 lo))) := fun F0 H0 F H σ Q S k => by
  refine h F0 H0 F H σ _ S ?_
  cases m with
  | ok xs =>
    intro v F1 H1 a r
    obtain ⟨p, vs, rfl, h1, h2⟩ := r
    refine hl _ _ _ (hh _ _ _ ⟨p, vs, rfl, Evl.ex_l a.in_ h1, fun l hl => ?_⟩)
    refine k l _ F1 _ (a.trans (Adv.newO a.in_ hl)) (Evl.fresh_back a.h hl) (none_of_ex a.in_ hl) upd_same ?_
    have e : xs.length = vs.length := by have := h2.length; rwa [List.length_map] at this
    unfold cutV
    rw [List.map_take, List.map_drop, e]
    exact Reps.take _ (Reps.drop _ h2)
  | exc c => exact k
  | stuck => exact k.elim
theorem to_none : ∀ (σ : L2.St) (H : Hp) (Q : Option Int → Hp → Prop), Q none H → tNoPart σ H Q := fun _ _ _ q => q
theorem to_int {i : Int} : ∀ (σ : L2.St) (H : Hp) (Q : Option Int → Hp → Prop), Q (some i) H → tPart (tC (.int i)) σ H Q := fun _ _ _ q => ⟨i, rfl, q⟩

/-! ### isinstance of data -/
def tyName : D → String
  | .non => "NoneType" | .bl _ => "bool" | .int _ => "int" | .str _ => "str" | .ty _ => "type" | .tup _ => "tuple" | .lst _ => "list" | .obj _ _ _ => "object"
def D.plain : D → Bool
  | .ty _ => false | .obj _ _ _ => false | _ => true
theorem tyx_of {x : D} {v : V} (h : Rep K F x v) (e : Ex F H) (p : x.plain = true) : TyX K H v (.type (tyName x)) := by
  cases x with
  | non => rw [show v = V.non from h]; exact .base .non
  | bl b => rw [show v = V.bl b from h]; exact .base (.bl b)
  | int b => rw [show v = V.int b from h]; exact .base (.int b)
  | str b => rw [show v = V.str b from h]; exact .base (.str b)
  | ty b => cases p
  | obj c ks ds => cases p
  | lst ds =>
    obtain ⟨a, vs, rfl, hl, _⟩ := h
    rcases Evl.ex_l e hl with (q | ⟨o, q⟩) | ⟨o, its, n, q1, q2, _⟩
    · exact .base (.lst q)
    · exact .base (.frz q)
    · exact .kList q1 q2
  | tup ds =>
    obtain ⟨a, vs, rfl, hl, _⟩ := h
    rcases Evl.ex_t e hl with (q | ⟨o, q⟩) | ⟨o, its, n, q1, q2, _⟩
    · exact .base (.tup q)
    · exact .fTuple q
    · exact .kTuple q1 q2
/-- isinstance(x, T), T a built-in class, x any data but objects -/
def isI (n : String) (x : D) : Bool := tyName x == n || (n == "int" && tyName x == "bool")
def isiOk (n : String) : Prop := kitB "NoneType" n = some ("NoneType" == n) ∧ kitB "bool" n = some ("bool" == n || n == "int") ∧ kitB "int" n = some ("int" == n) ∧ kitB "str" n = some ("str" == n) ∧ kitB "tuple" n = some ("tuple" == n) ∧ kitB "list" n = some ("list" == n)
theorem ev_isi {n : String} {m : Res α} (hn : isiOk n) (h : EvX K W env te m) : EvX K W env (tCB (rIsi K) (tCons te (tCons (tC (.ty n)) tNil))) (m.bind fun x => .need ((toD x).plain = true) (.ok (isI n (toD x)))) := fun F0 H0 F H σ Q S k => by
  refine h F0 H0 F H σ _ S (KE.cut S.ex k fun x v F1 H1 e1 a1 r1 k1 => ?_)
  by_cases c : (toD x).plain = true
  · rw [Res.need_pos c] at k1
    refine ⟨v, .ty n, _, _, isI n (toD x), rfl, .ty n, tyx_of r1 a1.in_ c, ?_, k1 _ F1 H1 (Adv.refl a1.in_) rfl⟩
    refine kit_ty ?_
    obtain ⟨h1, h2, h3, h4, h5, h6⟩ := hn
    revert c
    generalize toD x = y
    intro c
    cases y with
    | non => rw [show tyName .non = "NoneType" from rfl, h1]; simp [isI, tyName]
    | bl b => rw [show tyName (.bl b) = "bool" from rfl, h2]; simp [isI, tyName]
    | int b => rw [show tyName (.int b) = "int" from rfl, h3]; simp [isI, tyName]
    | str b => rw [show tyName (.str b) = "str" from rfl, h4]; simp [isI, tyName]
    | tup b => rw [show tyName (.tup b) = "tuple" from rfl, h5]; simp [isI, tyName]
    | lst b => rw [show tyName (.lst b) = "list" from rfl, h6]; simp [isI, tyName]
    | ty b => cases c
    | obj a b d => cases c
  · rw [Res.need_neg c] at k1; exact k1.elim
theorem isi_int : isiOk "int" := by unfold isiOk; decide +kernel
theorem isi_bool : isiOk "bool" := by unfold isiOk; decide +kernel
theorem isi_list : isiOk "list" := by unfold isiOk; decide +kernel
theorem isi_tuple : isiOk "tuple" := by unfold isiOk; decide +kernel
theorem isi_str : isiOk "str" := by unfold isiOk; decide +kernel

/-! ### errors -/
/-- what a body of a try gives: it falls through, or it hands back -/
inductive Fall (S τ : Type) where
  | go (s : S) | back (x : τ)
instance {S τ : Type} [ToD τ] : ToD (Fall S τ) := ⟨fun x => match x with | .go _ => .obj Str.empty [] [.non] | .back x => ToD.d x⟩
theorem no_go {S : Type} {s : S} {v : V} (h : Rep K F (toD (Fall.go s : Fall S τ)) v) : False := by
  obtain ⟨a, dx, vs, _, _, h3, h4⟩ := h
  obtain ⟨w, r, e, _⟩ := h4
  subst e
  simp at h3
/-- the classes of the errors: which they are, which is under which -/
structure Cls (K : PySem.W.Frag) (cs : List Str) (sub : Str → Str → Bool) : Prop where
  exc : ∀ c ∈ cs, ExcC K (He.ga K c)
  exm : ∀ c ∈ cs, ∀ d ∈ cs, PySem.W.exmOne K (.ref (He.ga K c)) (.ref (He.ga K d)) = some (sub c d)
  kit : ∀ c ∈ cs, ∀ d ∈ cs, PySem.W.kitOne K (.ref (He.ga K c)) (.ref (He.ga K d)) = some (sub c d)
  kiv : ∀ c ∈ cs, PySem.W.kitOne K (.ref (He.ga K c)) (.type "ValueError") = some true
/-- the outcome of: try body, except X -/
def tryR {S τ : Type} (known : Str → Bool) (sub : Str → Bool) (m : Res (Fall S τ)) (rest : S → Res τ) (hd : Str → Res τ) : Res τ := match m with
  | .ok (.go s) => rest s
  | .ok (.back x) => .ok x
  | .exc c => if known c = true then (if sub c = true then hd c else .exc c) else .stuck
  | .stuck => .stuck
theorem Sl.setNone {K : PySem.W.Frag} {F0 H0 F H : Hp} {σ : L2.St} {env : En} (S : Sl K F0 H0 F H σ env) (i : Nat) : Sl K F0 H0 F H (σ.set i none) (env.set i none) := by
  refine ⟨S.adv, fun j sk e => ?_, fun j k xs ys p hjk e1 e2 o1 o2 h1 => ?_, by rw [List.length_set, List.length_set]; exact S.len⟩
  · rcases set_get e with ⟨_, z⟩ | ⟨z, e⟩
    · cases z
    · obtain ⟨w, q1, q2⟩ := S.slot j sk e
      exact ⟨w, by rw [List.getElem?_set_ne z]; exact q1, q2⟩
  · rcases set_get e1 with ⟨_, z⟩ | ⟨z1, e1⟩
    · cases z
    rcases set_get e2 with ⟨_, z⟩ | ⟨z2, e2⟩
    · cases z
    rw [List.getElem?_set_ne z1] at h1
    rw [List.getElem?_set_ne z2]
    exact S.dis j k xs ys p hjk e1 e2 o1 o2 h1
/-- the body falls through by s (envS s, rest s), or hands back; the suite hands back, or falls through to mr -/
theorem blk_tryAs {S : Type} {cs : List Str} {sub : Str → Str → Bool} {x : Str} {i : Nat} {tb : WX → TS} {ts : Addr → Value → Option Addr → TS} {envS : S → En} {m : Res (Fall S τ)} {rest : S → Res τ} {hd : Str → Res τ}
    (L : Lk K W F0 H0 rt PT KP) (hT : PT env) (C : Cls K cs sub) (hx : x ∈ cs)
    (hb : ∀ (W' : WX) (KP' : Res (Fall S τ) → Prop), Lk K W' F0 H0 rt (fun e => EnLe e env) KP' → (∀ s, Blk K F0 H0 KP' Z.nx (envS s) (.ok (.go s))) → Blk K F0 H0 KP' (tb W' Z) env m)
    (hs : ∀ (c : Str) (a : Addr) (nx bk ct : L2.St → Hp → Prop), c ∈ cs → sub c x = true → (∀ env' m', Blk K F0 H0 KP Z.nx (env'.set i none) m' → Blk K F0 H0 KP nx env' m') →
      Blk K F0 H0 KP (ts a (.ref (He.ga K c)) none { nx := nx, rt := rt, bk := bk, ct := ct }) (env.set i (some (.raw (.ref a)))) (hd c))
    (hr : ∀ s, Blk K F0 H0 KP Z.nx (envS s) (rest s)) (hZ : Z.rt = rt := by rfl) :
    Blk K F0 H0 KP (tb (wAs K (.ref (He.ga K x)) i ts W Z) Z) env (tryR (fun c => decide (c ∈ cs)) (fun c => sub c x) m rest hd) := fun F H σ S1 h => by
  subst hZ
  refine hb (wAs K (.ref (He.ga K x)) i ts W Z) (fun r => KP (tryR (fun c => decide (c ∈ cs)) (fun c => sub c x) r rest hd)) ⟨fun y h v F H a r => ?_, fun c F H σ env' h p S' => ?_, L.no⟩ (fun s F H σ S h => hr s F H σ S h) F H σ S1 h
  · cases y with
    | go s => exact (no_go r).elim
    | back y => exact L.ok y h v F H a r
  · have h : KP (if decide (c ∈ cs) = true then (if sub c x = true then hd c else .exc c) else .stuck) := h
    by_cases hc : c ∈ cs
    · rw [if_pos (decide_eq_true hc)] at h
      have S2 := S'.weak p
      refine ⟨sub c x, C.exm c hc x hx, fun q a ha => ?_, fun q => ?_⟩
      · rw [if_pos q] at h
        refine hs c a _ _ _ hc q (fun env' m' B F H σ S h => B F H _ (S.setNone i) h) F H _ ?_ h
        refine ⟨S2.adv, fun j sk e => ?_, fun j k xs ys p hjk e1 e2 o1 o2 h1 => ?_, by rw [List.length_set, List.length_set]; exact S2.len⟩
        · rcases set_get e with ⟨rfl, z⟩ | ⟨z, e⟩
          · cases z
            have hi : i < env.length := by
              have h := (List.getElem?_eq_some_iff.mp e).1
              rwa [List.length_set] at h
            exact ⟨_, by rw [List.getElem?_set_self (by rw [S2.len]; exact hi)], rfl⟩
          · obtain ⟨w, q1, q2⟩ := S2.slot j sk e
            exact ⟨w, by rw [List.getElem?_set_ne z]; exact q1, q2⟩
        · rcases set_get e1 with ⟨_, z⟩ | ⟨z1, e1⟩
          · cases z; cases o1
          rcases set_get e2 with ⟨_, z⟩ | ⟨z2, e2⟩
          · cases z; cases o2
          rw [List.getElem?_set_ne z1] at h1
          rw [List.getElem?_set_ne z2]
          exact S2.dis j k xs ys p hjk e1 e2 o1 o2 h1
      · rw [if_neg (by rw [q]; exact Bool.false_ne_true)] at h
        exact L.exc c F H σ env h hT S2
    · rw [if_neg (by simpa using hc)] at h
      exact (L.no h).elim
/-- isinstance(e, C), isinstance(e, (C1, C2)) in the suite -/
def rIsE2 (K : PySem.W.Frag) (a : Addr) (cls : Value) (d : Option Addr) : List V → Hp → VK → Prop := fun xs H Q => ∃ (Dc : Addr) (c : V) (cv : Value) (b : Bool), cls = .ref Dc ∧ d = none ∧ ExcC K Dc ∧ xs = [.ref a, c] ∧ (∀ u, RelV c u → u = cv) ∧ PySem.W.kitOne K (.ref Dc) cv = some b ∧ Q (.bl b) H
theorem call_isE2 {X : Cx} {a : Addr} {cls : Value} {d : Option Addr} {oe : Obj} {pn : List (Addr × Obj)} (hz : Zc cls d oe) (hf : ∃ vs, oe.data = .fields vs) : CallR (X.suite a ((a, oe) :: pn)) (.builtin "isinstance") (rIsE2 X.K a cls d) := by
  intro pins s σ H xs us Q I r h
  obtain ⟨Dc, c, cv, b, rfl, rfl, C, e, k, q, hQ⟩ := h
  exact call_isE (X := X) C hz hf pins s σ H xs us Q I r ⟨c, cv, b, e, k, q, hQ⟩
def rIsET (K : PySem.W.Frag) (a : Addr) (cls : Value) (d : Option Addr) : List V → Hp → VK → Prop := fun xs H Q => ∃ (Dc tp : Addr) (cl : List V) (us : List Value) (b : Bool), cls = .ref Dc ∧ d = none ∧ ExcC K Dc ∧ xs = [.ref a, .ref tp] ∧ H tp = some (.tup cl) ∧ Paired ClsV cl us ∧ PySem.W.kitAny K (.ref Dc) us = some b ∧ Q (.bl b) H
theorem call_isET {X : Cx} {a : Addr} {cls : Value} {d : Option Addr} {oe : Obj} {pn : List (Addr × Obj)} (hz : Zc cls d oe) (hf : ∃ vs, oe.data = .fields vs) : CallR (X.suite a ((a, oe) :: pn)) (.builtin "isinstance") (rIsET X.K a cls d) := by
  intro pins s σ H xs us Q I r h
  obtain ⟨Dc, tp, cl, ws, b, rfl, rfl, C, rfl, hT, k, e, q⟩ := h
  obtain ⟨u1, u2, rfl, r1, r2⟩ := vals2 r
  cases (show u2 = Value.ref tp from r2)
  cases (show u1 = Value.ref a from r1)
  obtain ⟨_, its, rv, o, h1, h2, n, h3⟩ := (show ObjOk X.prog X.w H s.heap tp (.tup cl) from I.hok tp _ hT)
  have e3 := ClsV.all k rv
  subst e3
  obtain ⟨oc, od, dt, sl⟩ := o
  simp only at h2 h3
  subst h2 h3
  obtain ⟨hget, _⟩ := I.pin (a, oe) (List.mem_append.mpr (.inl List.mem_cons_self))
  obtain ⟨vs, hv⟩ := hf
  have J : PySem.W.InstAt s.heap a oe Dc none := by
    obtain ⟨oc, od, oda, osl⟩ := oe
    obtain ⟨h1, h2⟩ := hz
    dsimp only at h1 h2 hv
    subst h1 h2 hv
    exact ⟨hget, rfl, rfl, trivial⟩
  exact PySem.W.kia_tup (PySem.W.handS_kitx_exc C.hg C.hk C.hs C.hd C.ha C.hn C.ht C.hm) I.kIn J h1 e (fun z => nomatch z) fun tk => ⟨.bl b, H, I.tok tk, rfl, q⟩
theorem ev_isE {cs : List Str} {sub : Str → Str → Bool} {c x : Str} {i : Nat} {a : Addr} (C : Cls K cs sub) (hc : c ∈ cs) (hx : x ∈ cs) (h : env[i]? = some (some (.raw (.ref a)))) :
    EvX K W env (tCB (rIsE2 K a (.ref (He.ga K c)) none) (tCons (tVar i) (tCons (tC (.ref (He.ga K x))) tNil))) (.ok (sub c x)) := fun F0 H0 F H σ Q S k => by
  obtain ⟨v, e, q⟩ := S.slot i _ h
  cases (show v = V.ref a from q)
  exact ⟨_, e, He.ga K c, .ref (He.ga K x), .ref (He.ga K x), sub c x, rfl, rfl, C.exc c hc, rfl, fun u r => r, C.kit c hc x hx, k _ F H (Adv.refl S.ex) rfl⟩
theorem ev_isEV {cs : List Str} {sub : Str → Str → Bool} {c : Str} {i : Nat} {a : Addr} (C : Cls K cs sub) (hc : c ∈ cs) (h : env[i]? = some (some (.raw (.ref a)))) :
    EvX K W env (tCB (rIsE2 K a (.ref (He.ga K c)) none) (tCons (tVar i) (tCons (tC (.ty "ValueError")) tNil))) (.ok true) := fun F0 H0 F H σ Q S k => by
  obtain ⟨v, e, q⟩ := S.slot i _ h
  cases (show v = V.ref a from q)
  exact ⟨_, e, He.ga K c, .ty "ValueError", .type "ValueError", true, rfl, rfl, C.exc c hc, rfl, fun u r => r, C.kiv c hc, k _ F H (Adv.refl S.ex) rfl⟩
theorem kit_any {cs : List Str} {sub : Str → Str → Bool} {c : Str} (C : Cls K cs sub) (hc : c ∈ cs) : ∀ {xs : List Str}, (∀ x ∈ xs, x ∈ cs) → PySem.W.kitAny K (.ref (He.ga K c)) (xs.map fun x => .ref (He.ga K x)) = some (xs.any (sub c))
  | [], _ => rfl
  | x :: xs, h => by
    show (match PySem.W.kitOne K (.ref (He.ga K c)) (.ref (He.ga K x)) with | some true => some true | some false => PySem.W.kitAny K (.ref (He.ga K c)) (xs.map fun x => .ref (He.ga K x)) | none => none) = _
    rw [C.kit c hc x (h x List.mem_cons_self), kit_any C hc fun y hy => h y (List.mem_cons_of_mem _ hy)]
    cases q : sub c x <;> simp [q]
theorem ev_isET2 {cs : List Str} {sub : Str → Str → Bool} {c x y : Str} {i : Nat} {a : Addr} (C : Cls K cs sub) (hc : c ∈ cs) (hx : x ∈ cs) (hy : y ∈ cs) (h : env[i]? = some (some (.raw (.ref a)))) :
    EvX K W env (tCB (rIsET K a (.ref (He.ga K c)) none) (tCons (tVar i) (tCons (tTup (tCons (tC (.ref (He.ga K x))) (tCons (tC (.ref (He.ga K y))) tNil))) tNil))) (.ok (sub c x || sub c y)) := fun F0 H0 F H σ Q S k => by
  obtain ⟨v, e, q⟩ := S.slot i _ h
  cases (show v = V.ref a from q)
  refine ⟨_, e, by show 2 ≤ sizeLine; decide, fun p hp => ?_⟩
  have a2 : Adv F H (upd F p (.tup [.ref (He.ga K x), .ref (He.ga K y)])) (upd H p (.tup [.ref (He.ga K x), .ref (He.ga K y)])) := Adv.new S.ex hp
  refine ⟨He.ga K c, p, [.ref (He.ga K x), .ref (He.ga K y)], [.ref (He.ga K x), .ref (He.ga K y)], sub c x || sub c y, rfl, rfl, C.exc c hc, rfl, upd_same, .cons (.own _) (.cons (.own _) .nil), ?_, k _ _ _ a2 rfl⟩
  have := kit_any C hc (xs := [x, y]) (by simp [hx, hy])
  simpa using this
end

/-! ### a def -/
def enStart (N : List Str) (ds : List D) : En := ds.map (fun x => some (.im x)) ++ List.replicate (N.length - ds.length) none
theorem sl_start {K : PySem.W.Frag} {F H : Hp} {N : List Str} {ds : List D} {vs : List V} (e : Ex F H) (r : Reps K F ds vs) : Sl K F H F H (L2.start N vs) (enStart N ds) := by
  have hl := r.length
  refine ⟨Adv.refl e, fun i sk q => ?_, fun i j xs ys p _ q _ oo _ _ => ?_, by simp [L2.start, enStart, hl]⟩
  · unfold enStart at q
    by_cases c : i < ds.length
    · rw [List.getElem?_append_left (by simpa using c), List.getElem?_map, List.getElem?_eq_getElem c] at q
      cases q
      obtain ⟨v, h1, h2⟩ := r.get (List.getElem?_eq_getElem c)
      refine ⟨v, ?_, h2⟩
      unfold L2.start
      rw [List.getElem?_append_left (by rw [List.length_map]; omega), List.getElem?_map, h1]; rfl
    · rw [List.getElem?_append_right (by simpa using c), List.getElem?_replicate] at q
      split at q <;> cases q
  · unfold enStart at q
    by_cases c : i < ds.length
    · rw [List.getElem?_append_left (by simpa using c), List.getElem?_map, List.getElem?_eq_getElem c] at q
      cases q; cases oo
    · rw [List.getElem?_append_right (by simpa using c), List.getElem?_replicate] at q
      split at q <;> cases q
section
variable {P : Program} {w : World} {K : PySem.W.Frag} {mg : Str → Option Value} {base : Heap} {x qual : Str} {params : Arguments} {body : List Stmt} {scope : Scope} {dvs : List V} {kws : List (Str × V)} {f : Addr} {fd : FuncData}
theorem fn_ok {N ps : List Str} {k : Nat} {β τ : Type} [ToDs β] [ToD τ] {fM : β → Res τ} (F : FunD K x qual params body scope dvs kws f fd) (S : FnScope N ps scope) (hl : ∀ y : β, (ToDs.ds y).length = ps.length)
    (hbody : ∀ (cdv : Value) (A : Around) (outer : List Env) (s : Shared) (H : Hp) (E : XK), Room k (A.deeper (PyProof.Rows.envOfC qual scope s.heap.objs.size f cdv)) →
      ∃ t, PSs (cxOf (L2.CX P w) P w K mg base N qual scope f cdv A outer s H E) body t ∧
        ∀ (y : β) (F0 H0 : Hp) (Q : VK) (KP : Res τ → Prop), Lk K (fun cls d _ H => E cls d H) F0 H0 Q (fun _ => True) KP → Blk K F0 H0 KP (t { nx := fun _ H' => Q .non H', rt := Q }) (enStart N (ToDs.ds y)) (fM y)) :
    FnOk P w K mg base (L2.CX P w) (k + 1) f fd ps (spM K fM) := by
  refine F.ok S (fun vs H Q E h => ?_) (fun cdv A outer s H vs Q E hr h => ?_)
  · obtain ⟨F, y, _, r, _⟩ := h
    rw [← r.length]; exact hl y
  · obtain ⟨t, h1, h2⟩ := hbody cdv A outer s H E hr
    refine ⟨t, h1, ?_⟩
    obtain ⟨F, y, e, r, q⟩ := h
    refine h2 y F H Q (fun r => KE K (fun cls d _ H => E cls d H) F H [] Q r) ⟨fun z h v F' H' a r => h v F' H' a r, fun c F' H' σ env h _ S' => h F' H' S'.adv, fun z => z⟩ F H _ (sl_start e r) q
end
end Mi
set_option maxHeartbeats 1000000
namespace Mi
open PySem PySem.Spec L2
open Evl (Ex)
abbrev W0 (E : XK) : WX := fun cls d _ H => E cls d H
theorem need_mild {α : Type} {p : Prop} {x : α} {c : Str} (h : Res.need p (.ok x) = .exc c) : False := by
  by_cases q : p
  · rw [Res.need_pos q] at h; cases h
  · rw [Res.need_neg q] at h; cases h
/-! what a value of any kind is taken for -/
def D.asInt : D → Res Int
  | .int i => .ok i
  | _ => .stuck
def D.asBool : D → Res Bool
  | .bl i => .ok i
  | _ => .stuck
def D.asStr : D → Res Str
  | .str i => .ok i
  | _ => .stuck
def D.asList : D → Res (List D)
  | .lst i => .ok i
  | _ => .stuck
def D.asTu : D → Res (Tu D)
  | .tup i => .ok ⟨i⟩
  | _ => .stuck
def intsOf : List D → Res (List Int)
  | [] => .ok []
  | .int i :: r => (intsOf r).bind fun s => .ok (i :: s)
  | _ :: _ => .stuck
def D.asInts : D → Res (List Int)
  | .lst i => intsOf i
  | _ => .stuck
theorem asInt_ok : ∀ (x : D) (y : Int), x.asInt = .ok y → toD y = x
  | .int i, y, h => by cases h; rfl
theorem asInt_x (x : D) (c : Str) : x.asInt ≠ .exc c := by cases x <;> intro h <;> cases h
theorem asBool_ok : ∀ (x : D) (y : Bool), x.asBool = .ok y → toD y = x
  | .bl i, y, h => by cases h; rfl
theorem asBool_x (x : D) (c : Str) : x.asBool ≠ .exc c := by cases x <;> intro h <;> cases h
theorem asStr_ok : ∀ (x : D) (y : Str), x.asStr = .ok y → toD y = x
  | .str i, y, h => by cases h; rfl
theorem asStr_x (x : D) (c : Str) : x.asStr ≠ .exc c := by cases x <;> intro h <;> cases h
theorem asList_ok : ∀ (x : D) (y : List D), x.asList = .ok y → toD y = x
  | .lst i, y, h => by cases h; show D.lst (i.map fun x => x) = _; rw [List.map_id']
theorem asList_x (x : D) (c : Str) : x.asList ≠ .exc c := by cases x <;> intro h <;> cases h
theorem asTu_ok : ∀ (x : D) (y : Tu D), x.asTu = .ok y → toD y = x
  | .tup i, y, h => by cases h; show D.tup (i.map fun x => x) = _; rw [List.map_id']
theorem asTu_x (x : D) (c : Str) : x.asTu ≠ .exc c := by cases x <;> intro h <;> cases h
theorem intsOf_ok : ∀ (x : List D) (y : List Int), intsOf x = .ok y → y.map D.int = x
  | [], y, h => by cases h; rfl
  | .int i :: r, y, h => by
    have h : (intsOf r).bind (fun s => .ok (i :: s)) = .ok y := h
    cases e : intsOf r with
    | ok z => rw [e] at h; cases h; rw [List.map_cons, intsOf_ok r z e]
    | exc c => rw [e] at h; cases h
    | stuck => rw [e] at h; cases h
theorem intsOf_x : ∀ (x : List D) (c : Str), intsOf x ≠ .exc c
  | [], c, h => by cases h
  | .int i :: r, c, h => by
    have h : (intsOf r).bind (fun s => .ok (i :: s)) = .exc c := h
    cases e : intsOf r with
    | ok z => rw [e] at h; cases h
    | exc c => exact intsOf_x r c e
    | stuck => rw [e] at h; cases h
  | .non :: _, c, h => by cases h
  | .bl _ :: _, c, h => by cases h
  | .str _ :: _, c, h => by cases h
  | .ty _ :: _, c, h => by cases h
  | .tup _ :: _, c, h => by cases h
  | .lst _ :: _, c, h => by cases h
  | .obj _ _ _ :: _, c, h => by cases h
theorem asInts_ok : ∀ (x : D) (y : List Int), x.asInts = .ok y → toD y = x
  | .lst i, y, h => congrArg D.lst (intsOf_ok i y h)
theorem asInts_x : ∀ (x : D) (c : Str), x.asInts ≠ .exc c
  | .lst i, c, h => intsOf_x i c h
  | .non, c, h => by cases h
  | .bl _, c, h => by cases h
  | .int _, c, h => by cases h
  | .str _, c, h => by cases h
  | .ty _, c, h => by cases h
  | .tup _, c, h => by cases h
  | .obj _ _ _, c, h => by cases h
theorem intsOf_map : ∀ (y : List Int), intsOf (y.map D.int) = .ok y
  | [] => rfl
  | i :: r => by show (intsOf (r.map D.int)).bind _ = _; rw [intsOf_map r]; rfl
theorem asInts_toD (y : List Int) : (toD y).asInts = .ok y := intsOf_map y
/-- xs[lo:hi] -/
def cutL {α : Type} (xs : List α) (lo hi : Option Int) : List α := (xs.drop (HT.sIx xs.length 0 lo)).take (HT.sIx xs.length xs.length hi - HT.sIx xs.length 0 lo)
section
variable {K : PySem.W.Frag} {W : WX} {F0 H0 F H F' H' F1 : Hp} {rt : VK} {PT : En → Prop} {env env' : En} {α β γ τ : Type} [ToD α] [ToD β] [ToD γ] [ToD τ] {KP : Res τ → Prop} {te ta tb tc : TE} {tt : TT} {Z : Ends} {t u : TS} {T : L2.St → Hp → Prop} {σ : L2.St}
theorem ev_bits {m : Res Int} (h : EvX K W env te m) : EvX K W env (tBits te) (m.bind fun i => .ok ((Builtin.Int.intBits i : Nat) : Int)) := fun F0 H0 F H σ Q S k => by
  refine h F0 H0 F H σ _ S (KE.cut S.ex k fun x v F1 H1 e1 a1 r1 k1 => ?_)
  exact ⟨x, r1, k1 _ F1 H1 (Adv.refl a1.in_) rfl⟩
theorem ev_cast {m : Res D} {f : D → Res α} (hf : ∀ x y, f x = .ok y → toD y = x) (hx : ∀ x c, f x ≠ .exc c) (h : EvX K W env te m) : EvX K W env te (m.bind f) := fun F0 H0 F H σ Q S k => by
  refine h F0 H0 F H σ _ S ?_
  cases m with
  | ok x =>
    intro v F1 H1 a r
    have k : KE K W F H σ Q (f x) := k
    cases e : f x with
    | ok y => rw [e] at k; exact k v F1 H1 a (by rw [hf x y e]; exact r)
    | exc c => exact absurd e (hx x c)
    | stuck => rw [e] at k; exact k.elim
  | exc c => exact k
  | stuck => exact k.elim
theorem blk_fin {Q : VK} {x : τ} (L : Lk K W F0 H0 Q PT KP) (hx : toD x = .non) : Blk K F0 H0 KP (fun _ H' => Q .non H') env (.ok x) := fun F H σ S h => L.ok x h .non F H S.adv (by rw [hx]; rfl)
/-- what follows first, then the statement -/
theorem blk_with {m1 m : Res τ} {env1 : En} (h1 : Blk K F0 H0 KP Z.nx env1 m1) (h2 : Blk K F0 H0 KP Z.nx env1 m1 → Blk K F0 H0 KP (t Z) env m) : Blk K F0 H0 KP (t Z) env m := h2 h1
theorem blk_if2 {m : Res Bool} {a b : Res τ} (L : Lk K W F0 H0 rt PT KP) (hT : PT env) (hc : EvT K W env tt m) (h1 : Blk K F0 H0 KP (t Z) env a) (h2 : Blk K F0 H0 KP (u Z) env b) :
    Blk K F0 H0 KP (tIfS tt t u Z) env (m.bind fun c => cond c a b) := blk_if L hT hc h1 h2
theorem blk_ifj {S : Type} (envS : S → En) (k : S → Res τ) {m : Res Bool} {a b : Res τ} (L : Lk K W F0 H0 rt PT KP) (hT : PT env) (hc : EvT K W env tt m) (hr : ∀ s, Blk K F0 H0 KP Z.nx (envS s) (k s))
    (h1 : (∀ s, Blk K F0 H0 KP Z.nx (envS s) (k s)) → Blk K F0 H0 KP (t Z) env a) (h2 : (∀ s, Blk K F0 H0 KP Z.nx (envS s) (k s)) → Blk K F0 H0 KP (u Z) env b) :
    Blk K F0 H0 KP (tIfS tt t u Z) env (m.bind fun c => cond c a b) := blk_if L hT hc (h1 hr) (h2 hr)
end
/-- try: .. except X as n: .. -/
def tTry (K : PySem.W.Frag) (c : Value) (i : Nat) (ts : Addr → Value → Option Addr → TS) (W : WX) (tb : WX → TS) : TS := fun D σ H => tb (wAs K c i ts W D) D σ H
section
variable {X : Cx} {x n : Str} {i : Nat} {c : Value} {body suite : List Stmt} {b₀ : Stmt} {np pos pos' : Pos} {tb : WX → TS} {ts : Addr → Value → Option Addr → TS} {Wout : WX}
theorem ps_tryW (hs : X.stack = X.env :: X.outer) (hf : X.env.frame = some X.env.locals) (hN : X.N.Nodup) (hi : X.N[i]? = some n) (hln : X.env.kindOf n = some .local) (hc : Names X x c) (tk : Takes X Wout)
    (hb : ∀ (W : WX) (pn : List (Addr × Obj)) (xe : Value → Shared → Prop), Takes (X.tr pn xe) W → PassesOwn (model X.prog X.w) X.A X.env xe → PSs (X.tr pn xe) body (tb W))
    (hsu : ∀ (a : Addr) (oe : Obj) (cls : Value) (d : Option Addr) (pn : List (Addr × Obj)), Zc cls d oe → (∃ vs, oe.data = .fields vs) → PSs (X.suite a ((a, oe) :: pn)) (b₀ :: suite) (ts a cls d)) :
    PS X (.Try body [.ExceptHandler (some (.Name x np)) (some n) (b₀ :: suite) pos'] [] [] pos) (tTry X.K c i ts Wout tb) := ps_try_as hs hf hN hi hln hc tk hb hsu
end
section
variable {K : PySem.W.Frag} {W : WX} {F0 H0 F H F' H' F1 : Hp} {rt : VK} {PT : En → Prop} {env env' : En} {τ : Type} [ToD τ] {KP : Res τ → Prop} {Z : Ends}
theorem blk_tryW {S : Type} {cs : List Str} {sub : Str → Str → Bool} {x : Str} {i : Nat} {tb : WX → TS} {ts : Addr → Value → Option Addr → TS} {envS : S → En} {m : Res (Fall S τ)} {rest : S → Res τ} {hd : Str → Res τ}
    (L : Lk K W F0 H0 rt PT KP) (hT : PT env) (C : Cls K cs sub) (hx : x ∈ cs)
    (hb : ∀ (W' : WX) (KP' : Res (Fall S τ) → Prop), Lk K W' F0 H0 rt (fun e => EnLe e env) KP' → (∀ s, Blk K F0 H0 KP' Z.nx (envS s) (.ok (.go s))) → Blk K F0 H0 KP' (tb W' Z) env m)
    (hs : ∀ (c : Str) (a : Addr) (nx bk ct : L2.St → Hp → Prop), c ∈ cs → sub c x = true → (∀ env' m', Blk K F0 H0 KP Z.nx (env'.set i none) m' → Blk K F0 H0 KP nx env' m') →
      Blk K F0 H0 KP (ts a (.ref (He.ga K c)) none { nx := nx, rt := rt, bk := bk, ct := ct }) (env.set i (some (.raw (.ref a)))) (hd c))
    (hr : ∀ s, Blk K F0 H0 KP Z.nx (envS s) (rest s)) (hZ : Z.rt = rt := by rfl) :
    Blk K F0 H0 KP (tTry K (.ref (He.ga K x)) i ts W tb Z) env (tryR (fun c => decide (c ∈ cs)) (fun c => sub c x) m rest hd) := blk_tryAs L hT C hx hb hs hr hZ
end
section
variable {X : Cx}
theorem ip_of {op : Operator} {r : R2} (h : OpR X (inplaceOp op) r) : PIp X op r := by
  intro pins s σ H x y v u Q I rx ry q
  exact h pins s σ H x y v u Q I rx ry q
theorem iop_mulX : OpR X (inplaceOp .Mult) (rI CMulX fun i j => .int (i * j)) := opI fun _ _ _ _ _ _ _ hc q => PyProof.Rows.imul_int q hc.ok
end

/-! ### the errors' facts, by one Bool -/
def eqOV (a : Option (Option Value)) (b : Value) : Bool := decide (a = some (some b))
def excCB (K : PySem.W.Frag) (C : Addr) : Bool :=
  He.eqO (PySem.W.findIn K (.ref C) "__getattribute__") (some (some (.builtin "BaseException.__getattribute__"))) && (He.eqO (PySem.W.findIn K (.ref C) "__getattr__") (some none) && (decide (PySem.W.subIn K (.ref C) (.type "BaseException") = some true) && (PySem.W.hasDictIn K C &&
    (He.eqO (PySem.W.findIn K (.ref C) "__class__") (some (some (.builtin "object.__class__"))) && (He.eqO (PySem.W.specialIn K (.builtin "object.__class__") "__get__") (some (some (.builtin "getset_descriptor.__get__"))) &&
      (decide (PySem.W.takesIn K (.builtin "object.__class__") = some true) && decide (PySem.W.mroIn K C (.type "object") = some true)))))))
theorem excC_of {K : PySem.W.Frag} {C : Addr} (h : excCB K C = true) : ExcC K C := by
  obtain ⟨h1, h⟩ := He.ba h
  obtain ⟨h2, h⟩ := He.ba h
  obtain ⟨h3, h⟩ := He.ba h
  obtain ⟨h4, h⟩ := He.ba h
  obtain ⟨h5, h⟩ := He.ba h
  obtain ⟨h6, h⟩ := He.ba h
  obtain ⟨h7, h8⟩ := He.ba h
  exact ⟨He.eqO_ok h1, He.eqO_ok h2, of_decide_eq_true h3, h4, He.eqO_ok h5, He.eqO_ok h6, of_decide_eq_true h7, of_decide_eq_true h8⟩
def clsB (K : PySem.W.Frag) (cs : List Str) (sub : Str → Str → Bool) : Bool := cs.all fun c => excCB K (He.ga K c) && ((cs.all fun d => decide (PySem.W.kitOne K (.ref (He.ga K c)) (.ref (He.ga K d)) = some (sub c d)) && decide (PySem.W.exmOne K (.ref (He.ga K c)) (.ref (He.ga K d)) = some (sub c d))) &&
  decide (PySem.W.kitOne K (.ref (He.ga K c)) (.type "ValueError") = some true))
theorem cls_of {K : PySem.W.Frag} {cs : List Str} {sub : Str → Str → Bool} (h : clsB K cs sub = true) : Cls K cs sub := by
  have h1 : ∀ c ∈ cs, _ := fun c hc => He.ba (List.all_eq_true.mp h c hc)
  refine ⟨fun c hc => excC_of (h1 c hc).1, fun c hc d hd => ?_, fun c hc d hd => ?_, fun c hc => ?_⟩
  · exact of_decide_eq_true (He.ba (List.all_eq_true.mp (He.ba (h1 c hc).2).1 d hd)).2
  · exact of_decide_eq_true (He.ba (List.all_eq_true.mp (He.ba (h1 c hc).2).1 d hd)).1
  · exact of_decide_eq_true (He.ba (h1 c hc).2).2
end Mi
set_option maxHeartbeats 1000000
namespace Mi
open PySem PySem.Spec L2
open Evl (Ex)
theorem walk_end {l : PySem.W.OpenLaw} {n k : Nat} {q : Program} {loose : List Str} {XP : (Str → Option Value) → Heap → Prop} {YP : World → Heap → Prop} {d : PySem.DefRec} {x : Str} {m : List Int → Res Bool}
    (hn : l.most = some n) (hn2 : n ≤ sizeLine) (hdf : d.params.defaults = []) (hr : Room k PySem.callerA)
    (F : ∀ (w : World) (mg : Str → Option Value) (fa : Addr) (h : Heap), YP w h → h.Ns mainGlobals mg → mg d.name = some (.ref fa) →
      ∃ (K : PySem.W.Frag) (fd : FuncData), K.In h ∧ (∀ (s : Shared) (u : Value), PySem.BindsTo s fd ⟨[u], []⟩ [(x, u)]) ∧
        ∀ base : Heap, K.In base → base.Ns mainGlobals mg → FnOk l.prog w K mg base (L2.CX l.prog w) k fa fd [x] (spM K (fun (p : List Int × Unit) => m p.1)))
    (ht : ∀ ns : List Int, ns.length ≤ n → (∀ i ∈ ns, Builtin.Int.intBits i ≤ 1048576) → m ns = .ok true) :
    PySem.W.WalkO q loose XP YP l.row.toRowW d [] (fun f vs => PySem.call f vs) := by
  refine Att.attach_callB hn hdf fun w s₀ s₁ mg mb fa o pm cd doc a vs ns G Y ho hd hcd hmg hobj hints hlen hbits hg => ?_
  obtain ⟨K, fd, KX, hb, hF⟩ := F w mg fa _ Y G.T.g hmg
  refine law_call KX G.T.g G.T.b G.T.builtins G.T.nolimit hg hobj hints (Nat.le_trans hlen hn2) hr hF hb (fun H hO hS => ?_) fun H e s' z => ?_
  · refine ⟨H, (ns, ()), Ex.refl H, ⟨.ref a, [], rfl, ⟨a, ns.map V.int, rfl, hS, Reps.of_ints ns⟩, rfl⟩, ?_⟩
    show KE K _ H H [] _ (m ns)
    rw [ht ns hlen hbits]
    exact fun v F' H' _ r => r
  · obtain ⟨_, _, _, _, _, _, _, _, _, _, _, _, z⟩ := z
    exact z
end Mi
set_option maxHeartbeats 1000000
namespace Mi
open PySem PySem.Spec L2
open Evl (Ex)
abbrev rLenS (K : PySem.W.Frag) : List V → Hp → VK → Prop := fun xs H Q => ∃ p ys, xs = [.ref p] ∧ (SqL K H p ys ∨ SqT K H p ys) ∧ Q (.int ys.length) H
theorem cr_len {X : Cx} {K : PySem.W.Frag} (h : X.K = K) : CallR X (.builtin "len") (rLenS K) := by
  subst h; exact call_len_seq
theorem cr_ixL {X : Cx} {K : PySem.W.Frag} (h : X.K = K) : IxR X (rIxL K) := by
  subst h; exact ix_list
theorem cr_ixT {X : Cx} {K : PySem.W.Frag} (h : X.K = K) : IxR X (rIxT K) := by
  subst h; exact ix_tup
theorem cr_slL {X : Cx} {K : PySem.W.Frag} (h : X.K = K) : SlR X (rSlL K) := by
  subst h; exact sl_list
section
variable {K : PySem.W.Frag} {W : WX} {F0 H0 F H F' H' F1 : Hp} {rt : VK} {PT : En → Prop} {env env' : En} {α β γ τ : Type} [ToD α] [ToD β] [ToD γ] [ToD τ] {KP : Res τ → Prop} {te ta tb tc : TE} {tt : TT} {Z : Ends} {t u : TS} {T : L2.St → Hp → Prop} {σ : L2.St}
/-- xs[::-1] -/
theorem en_rev {m : Res (List α)} (h : EvX K W env te m) : EvN K W env (tRevL K te) (m.bind fun xs => .ok xs.reverse) := fun F0 H0 F H σ Q S k => by
  refine h F0 H0 F H σ _ S ?_
  cases m with
  | ok xs =>
    intro v F1 H1 a r
    obtain ⟨p, vs, rfl, h1, h2⟩ := r
    refine ⟨p, vs, rfl, Evl.ex_l a.in_ h1, fun l hl => ?_⟩
    refine k l _ F1 _ (a.trans (Adv.newO a.in_ hl)) (Evl.fresh_back a.h hl) (none_of_ex a.in_ hl) upd_same ?_
    rw [List.map_reverse]
    exact Reps.reverse h2
  | exc c => exact k
  | stuck => exact k.elim
/-- the parts of a text of an error -/
def EvJ (K : PySem.W.Frag) (W : WX) (env : En) (ts : List TE) (N : Nat) (m : Res Unit) : Prop :=
  ∀ F0 H0 F H σ acc (Q : Str → Hp → Prop), Sl K F0 H0 F H σ env → acc.length + N ≤ sizeLine → KE K W F H σ (fun _ H' => ∀ out, Q out H') m → tJs ts acc σ H Q
theorem ej_nil : EvJ K W env [] 0 (.ok ()) := fun F0 H0 F H σ acc Q S hn k => k .non F H (Adv.refl S.ex) rfl acc
theorem ej_txt {x : Str} {n N : Nat} {ts : List TE} {m : Res Unit} (hx : x.length ≤ n) (h : EvJ K W env ts N m) : EvJ K W env (tC (.str x) :: ts) (n + N) m := fun F0 H0 F H σ acc Q S hn k => by
  have e : (acc ++ x).length = acc.length + x.length := Str.length_append ..
  exact ⟨x, rfl, by omega, h F0 H0 F H σ (acc ++ x) Q S (by omega) k⟩
theorem ej_int {te : TE} {N : Nat} {ts : List TE} {m1 : Res Int} {m : Res Unit} (h1 : EvX K W env te m1) (h : EvJ K W env ts N m) : EvJ K W env (tFmt te :: ts) (1000 + N) (m1.bind fun i => .need (i.natAbs.log2 < 1920 ∧ (toString i : Str).length ≤ 1000) m) := fun F0 H0 F H σ acc Q S hn k => by
  refine h1 F0 H0 F H σ _ S (k.cut S.ex fun i v F1 H1 e1 a1 r1 k1 => ?_)
  have r1 : v = V.int i := r1
  subst r1
  by_cases q : i.natAbs.log2 < 1920 ∧ (toString i : Str).length ≤ 1000
  · rw [Res.need_pos q] at k1
    have e : (acc ++ toString i).length = acc.length + (toString i : Str).length := Str.length_append ..
    exact .inr ⟨i, rfl, q.1, toString i, rfl, by omega, h F0 H0 F1 H1 σ _ Q (S.step a1) (by omega) k1⟩
  · rw [Res.need_neg q] at k1; exact k1.elim
theorem blk_raiseJ {c : Str} {m : Res Unit} {ts : List TE} {N : Nat} (L : Lk K W F0 H0 rt PT KP) (hT : PT env) (hN : N ≤ sizeLine) (he : EvJ K W env ts N m) : Blk K F0 H0 KP (fun σ H => tJs ts Str.empty σ H fun _ H1 => W (.ref (He.ga K c)) none σ H1) env (m.bind fun _ => .exc c) := fun F H σ S h => by
  refine he F0 H0 F H σ _ _ S (by show 0 + N ≤ _; omega) (L.ke hT S h fun x v F1 H1 e1 a1 r1 h1 => ?_)
  exact fun _ => L.exc c F1 H1 σ env h1 hT (S.step a1)
end
end Mi
set_option maxHeartbeats 1000000
namespace Mi
open PySem PySem.Spec L2
open Evl (Ex)

/-! ### own classes: rules with what is raised at the caller's slots -/
section
variable {X : Cx} {CX : CXT} {k : Nat} {f C : Addr} {fd : FuncData} {ps : List Str} {sp : Sp} {E : L2.St → XK} {x m : Str} {p pos apos : Pos} {e o : Expr} {es : List Expr} {ta : TE} {t : TA}
def tMethQ (C : Addr) (m : Str) (sp : Sp) (E : L2.St → XK) (ta : TE) (t : TA) : TE := fun σ H Q => ta σ H fun x H1 => ∃ a dx fs, x = .ref a ∧ H1 a = some (.ins C dx fs) ∧ fs.lookup m = none ∧ t σ H1 fun vs H2 => sp (x :: vs) H2 Q (E σ)
theorem pe_methQ {pl : Sem Bool} (he : PE X o ta) (c : L2.Cls X.K C) (hm : Meth X.K C m f) (F : FnOk X.prog X.w X.K X.mg X.base CX k f fd ps sp) (hr : Room k X.A) (hb : Binds X.K fd ps []) (hx : ∀ σ, PassesAt CX X σ (E σ)) (ha : PA X (e :: es) t)
    (hst : starEach (e :: es) X.env = (false, eval e X.env) :: starEach es X.env := by rfl) (hpl : (backTo pos (starEach es X.env)).any (·.1) = false := by rfl)
    (ht : eval (.Call (.Attribute o m apos) (e :: es) [] pos) X.env = (do
      let ov ← eval o X.env
      standAt apos.atName
      let (f, first) ← holding [ov] (getMethod ov m pl)
      callWith pos f first (backTo pos (starEach (e :: es) X.env)) (backToKw pos (keywordEach [] X.env))) := by rfl) :
    PE X (.Call (.Attribute o m apos) (e :: es) [] pos) (tMethQ C m sp E ta t) := by
  refine ⟨fun pins s σ H Q I h => ?_⟩
  refine PySem.W.methodCall_KW (pl := pl) (thn (he.run pins s σ H _ I h) fun u s1 ⟨x, H1, I1, rx, a, dx, fs, ex, ea, l, q⟩ => ?_) ht
  subst ex
  obtain rfl : u = Value.ref a := rx
  refine getmeth_ok I1 ea c hm l ?_
  refine PySem.W.callWith_K (first := [.ref a]) (h₀ := X.base) I.ok.mod.kin hm.kp (thn (ha.run pos pins s1 σ H1 _ I1 q) fun us s2 ⟨vs, H2, I2, r, q2⟩ => ⟨I2.kIn, ?_⟩) hst hpl
  exact run_fnS (us := .ref a :: us) (vs := .ref a :: vs) F hr hb (hx σ) I2 (.cons rfl r) q2
theorem pe_methQ0 {pl : Sem Bool} (he : PE X o ta) (c : L2.Cls X.K C) (hm : Meth X.K C m f) (F : FnOk X.prog X.w X.K X.mg X.base CX k f fd ps sp) (hr : Room k X.A) (hb : Binds X.K fd ps []) (hx : ∀ σ, PassesAt CX X σ (E σ))
    (ht : eval (.Call (.Attribute o m apos) [] [] pos) X.env = (do
      let ov ← eval o X.env
      standAt apos.atName
      let (f, first) ← holding [ov] (getMethod ov m pl)
      callWith pos f first (backTo pos (starEach [] X.env)) (backToKw pos (keywordEach [] X.env))) := by rfl) :
    PE X (.Call (.Attribute o m apos) [] [] pos) (tMethQ C m sp E ta tNil) := by
  refine ⟨fun pins s σ H Q I h => ?_⟩
  refine PySem.W.methodCall_KW (pl := pl) (thn (he.run pins s σ H _ I h) fun u s1 ⟨x, H1, I1, rx, a, dx, fs, ex, ea, l, q⟩ => ?_) ht
  subst ex
  obtain rfl : u = Value.ref a := rx
  refine getmeth_ok I1 ea c hm l ?_
  exact PySem.W.callWith_K0 (first := [.ref a]) I1.kIn hm.kp (run_fnS (us := [.ref a]) (vs := [.ref a]) F hr hb (hx σ) I1 (.cons rfl .nil) q)
def tMakeQ (C : Addr) (sp : Sp) (E : L2.St → XK) (t : TA) : TE := fun σ H Q => t σ H fun vs H1 => ∀ x dx, H1 x = none → H1 dx = none → dx ≠ x → sp (.ref x :: vs) (upd (upd H1 dx (.own x)) x (.ins C dx [])) (fun v H2 => v = .non ∧ Q (.ref x) H2) (E σ)
theorem run_makeQ {pins : List (Addr × Obj)} {σ : L2.St} {H : Hp} {s : Shared} {Q : VK} {us : List Value} {vs : List V} (M : Mk X.K C f) (F : FnOk X.prog X.w X.K X.mg X.base CX k f fd ps sp) (hr : Room (k + 1) X.A) (hb : Binds X.K fd ps [])
    (hx : PassesAt CX X σ (E σ)) (I : Inv X pins σ H s) (r : Vals vs us)
    (h : ∀ x dx, H x = none → H dx = none → dx ≠ x → sp (.ref x :: vs) (upd (upd H dx (.own x)) x (.ins C dx [])) (fun v H2 => v = .non ∧ Q (.ref x) H2) (E σ)) :
    wpAny (model X.prog X.w) X.A (call (.ref C) us) (EP X pins σ Q) X.xe s := by
  have hq := h (s.heap.objs.size + 1) s.heap.objs.size (I.hok.fresh (Nat.le_succ _)) (I.hok.fresh (Nat.le_refl _)) (Nat.ne_of_lt (Nat.lt_succ_self _))
  have I2 := Inv.made (C := C) I
  have r2 : Vals (V.ref (s.heap.objs.size + 1) :: vs) (Value.ref (s.heap.objs.size + 1) :: us) := .cons rfl r
  have hl : (Value.ref (s.heap.objs.size + 1) :: us ++ []).length = ps.length := by
    rw [List.append_nil]
    have e := r2.length
    rw [F.len _ _ _ _ hq] at e
    exact e.symm
  have b := hb _ (Value.ref (s.heap.objs.size + 1) :: us) I2.kIn hl
  rw [List.append_nil] at b
  refine wpAny_call (make_map (f := f) I.kIn M.makes M.init (beq_iff_eq.mp M.fn) (codeAny_mono (F.run _ X.stack _ _ ⟨Value.ref (s.heap.objs.size + 1) :: us, []⟩ (Value.ref (s.heap.objs.size + 1) :: us) _ _ (E σ) (hr.make C us [])
    (I2.env0.make C us []) b r2 hq) fun r s' hq' => ?_))
  cases r with
  | error e => exact hx pins _ _ e s' I2 hq'
  | ok fl =>
    cases fl with
    | ret u =>
      obtain ⟨v, H', I3, rv, ev, q3⟩ := I2.after hq'
      subst ev
      exact ⟨rv, ⟨V.ref (s.heap.objs.size + 1), H', I3, rfl, q3⟩⟩
    | next => exact False.elim hq'
    | brk => exact False.elim hq'
    | cont => exact False.elim hq'
theorem pe_makeQ (M : Mk X.K C f) (F : FnOk X.prog X.w X.K X.mg X.base CX k f fd ps sp) (hr : Room (k + 1) X.A) (hg : Gl X x) (hm : X.mg x = some (.ref C)) (hb : Binds X.K fd ps []) (hx : ∀ σ, PassesAt CX X σ (E σ))
    (ha : PA X (e :: es) t) (hdb : (x == ("__debug__" : Str)) = false := by decide) (he : starEach (e :: es) X.env = (false, eval e X.env) :: starEach es X.env := by rfl) (hpl : (backTo pos (starEach es X.env)).any (·.1) = false := by rfl) :
    PE X (.Call (.Name x p) (e :: es) [] pos) (tMakeQ C sp E t) := by
  refine ⟨fun pins s σ H Q I h => ?_⟩
  refine wpAny_Call_Name_kw (ld_glob I hg hm ?_ hdb)
  refine PySem.W.callWith_K (h₀ := X.base) I.ok.mod.kin M.kp (thn (ha.run pos pins s σ H _ I h) fun us s1 ⟨vs, H1, I1, r, q⟩ => ⟨I1.kIn, ?_⟩) he hpl
  exact run_makeQ M F hr hb (hx σ) I1 r q
theorem pe_makeQ0 (M : Mk X.K C f) (F : FnOk X.prog X.w X.K X.mg X.base CX k f fd ps sp) (hr : Room (k + 1) X.A) (hg : Gl X x) (hm : X.mg x = some (.ref C)) (hb : Binds X.K fd ps []) (hx : ∀ σ, PassesAt CX X σ (E σ))
    (hdb : (x == ("__debug__" : Str)) = false := by decide) : PE X (.Call (.Name x p) [] [] pos) (tMakeQ C sp E tNil) := by
  refine ⟨fun pins s σ H Q I h => ?_⟩
  refine wpAny_Call_Name_kw (ld_glob I hg hm ?_ hdb)
  exact PySem.W.callWith_K0 I.kIn M.kp (run_makeQ (us := []) M F hr hb (hx σ) I .nil h)
end

/-! ### fields by their place -/
def posK (f : Str) : List Str → Option Nat
  | [] => none
  | g :: r => if g = f then some 0 else (posK f r).map (· + 1)
theorem lookup_pos {f : Str} {v : V} : ∀ {ks : List Str} {vs : List V} {j : Nat}, posK f ks = some j → vs[j]? = some v → (ks.zip vs).lookup f = some v
  | [], _, _, h, _ => by cases h
  | g :: r, [], j, h, q => by simp at q
  | g :: r, w :: ws, j, h, q => by
    unfold posK at h
    by_cases c : g = f
    · rw [if_pos c] at h; cases h
      simp at q; subst q c
      simp [List.zip_cons_cons, List.lookup]
    · rw [if_neg c] at h
      have c2 : (f == g) = false := beq_eq_false_iff_ne.mpr fun z => c z.symm
      cases e : posK f r with
      | none => rw [e] at h; cases h
      | some i =>
        rw [e] at h; cases h
        simp only [List.zip_cons_cons, List.lookup, c2]
        exact lookup_pos e (by simpa using q)
theorem lookup_no {f : Str} : ∀ {ks : List Str} {vs : List V}, posK f ks = none → (ks.zip vs).lookup f = none
  | [], _, _ => rfl
  | g :: r, [], _ => rfl
  | g :: r, w :: ws, h => by
    unfold posK at h
    by_cases c : g = f
    · rw [if_pos c] at h; cases h
    · rw [if_neg c] at h
      have c2 : (f == g) = false := beq_eq_false_iff_ne.mpr fun z => c z.symm
      simp only [List.zip_cons_cons, List.lookup, c2]
      refine lookup_no ?_
      cases e : posK f r with
      | none => rfl
      | some i => rw [e] at h; cases h
theorem putF_new {f : Str} {v : V} : ∀ {ks : List Str} {vs : List V}, posK f ks = none → ks.length = vs.length → putF f v (ks.zip vs) = (ks ++ [f]).zip (vs ++ [v])
  | [], [], _, _ => rfl
  | [], _ :: _, _, h => by simp at h
  | g :: r, [], _, h => by simp at h
  | g :: r, w :: ws, h, hl => by
    unfold posK at h
    by_cases c : g = f
    · rw [if_pos c] at h; cases h
    · rw [if_neg c] at h
      show (if g = f then _ else (g, w) :: putF f v (r.zip ws)) = _
      rw [if_neg c]
      rw [putF_new (ks := r) (vs := ws) (by cases e : posK f r with | none => rfl | some i => rw [e] at h; cases h) (by simpa using hl)]
      rfl
theorem putF_old {f : Str} {v : V} : ∀ {ks : List Str} {vs : List V} {j : Nat}, posK f ks = some j → ks.length = vs.length → putF f v (ks.zip vs) = ks.zip (vs.set j v)
  | [], _, _, h, _ => by cases h
  | g :: r, [], _, _, h => by simp at h
  | g :: r, w :: ws, j, h, hl => by
    unfold posK at h
    by_cases c : g = f
    · rw [if_pos c] at h; cases h
      show (if g = f then (g, v) :: r.zip ws else _) = _
      rw [if_pos c]; rfl
    · rw [if_neg c] at h
      cases e : posK f r with
      | none => rw [e] at h; cases h
      | some i =>
        rw [e] at h; cases h
        show (if g = f then _ else (g, w) :: putF f v (r.zip ws)) = _
        rw [if_neg c, putF_old e (by simpa using hl)]
        rfl
section
variable {K : PySem.W.Frag} {W : WX} {F0 H0 F H F' H' F1 : Hp} {rt : VK} {PT : En → Prop} {env env' : En} {α β γ τ : Type} [ToD α] [ToD β] [ToD γ] [ToD τ] {KP : Res τ → Prop} {te ta tb tc : TE} {tt : TT} {Z : Ends} {t u : TS} {T : L2.St → Hp → Prop} {σ : L2.St}
/-- e.f, e an object that stands still -/
theorem ev_fld {m : Res α} {g : α → β} {c f : Str} {ks : List Str} {j : Nat} (he : EvX K W env te m) (hc : L2.Cls K (He.ga K c)) (hn : NoAttr K (He.ga K c) f) (hj : posK f ks = some j) (hf : ∀ x : α, ∃ ds, toD x = .obj c ks ds ∧ ds[j]? = some (toD (g x))) :
    EvX K W env (tFld K te f) (m.bind fun x => .ok (g x)) := fun F0 H0 F H σ Q S k => by
  refine he F0 H0 F H σ _ S (KE.cut S.ex k fun x v F1 H1 e1 a1 r1 k1 => ?_)
  obtain ⟨ds, e, q⟩ := hf x
  rw [e] at r1
  obtain ⟨a, dx, vs, rfl, h2, h3, h4⟩ := r1
  obtain ⟨w, hw, rw_⟩ := Reps.get h4 q
  exact ⟨a, _, dx, _, w, rfl, a1.in_ _ _ h2, hc, hn, lookup_pos hj hw, k1 _ F1 H1 (Adv.refl a1.in_) rw_⟩
/-- self.f, self an object that is being made -/
theorem ev_fldO {x : α} {c f : Str} {pp : Option Addr} {ks : List Str} {ds : List D} {i j : Nat} (hi : env[i]? = some (some (.oi pp c ks ds))) (hc : L2.Cls K (He.ga K c)) (hn : NoAttr K (He.ga K c) f) (hj : posK f ks = some j) (hd : ds[j]? = some (toD x)) :
    EvX K W env (tFld K (tVar i) f) (.ok x) := fun F0 H0 F H σ Q S k => by
  obtain ⟨v, e, p, dx, vs, rfl, h0, hf, hp, hl, hr, _⟩ := S.slot i _ hi
  obtain ⟨w, hw, rw_⟩ := Reps.get hr hd
  exact ⟨_, e, p, _, dx, _, w, rfl, hp, hc, hn, lookup_pos hj hw, k _ F H (Adv.refl S.ex) rw_⟩
/-- self.f = e, a new field -/
theorem blk_fldN {i : Nat} {m : Res α} {g : α → Res τ} {c f : Str} {pp : Option Addr} {ks : List Str} {ds : List D} (L : Lk K W F0 H0 rt PT KP) (hT : PT env) (he : EvX K W env te m) (hi : env[i]? = some (some (.oi pp c ks ds))) (hc : L2.Cls K (He.ga K c)) (hn : NoAttr K (He.ga K c) f) (hj : posK f ks = none) (hk : ks.length < 1000)
    (k : ∀ x, Blk K F0 H0 KP Z.nx (env.set i (some (.oi pp c (ks ++ [f]) (ds ++ [toD x])))) (g x)) : Blk K F0 H0 KP (sFld K (tVar i) te f Z) env (m.bind g) := fun F H σ S h =>
  he F0 H0 F H σ _ S (L.ke hT S h fun x v F1 H1 e1 a1 r1 h1 => by
    have S1 := S.step a1
    obtain ⟨w, e, p, dx, vs, rfl, h0, hf, hp, hl, hr, hpp⟩ := S1.slot i _ hi
    refine ⟨_, e, p, _, dx, _, rfl, hp, hc, hn, by rw [List.length_zip, ← hl, Nat.min_self]; exact hk, ?_⟩
    refine k x F1 _ σ (S1.chgO hi rfl e hf h0 ⟨p, dx, vs ++ [v], rfl, h0, hf, ?_, by simp [hl], Reps.append hr (Reps.one r1), hpp⟩) h1
    rw [upd_same, putF_new hj hl])
/-- self.f = e, a field that is there -/
theorem blk_fldR {i j : Nat} {m : Res α} {g : α → Res τ} {c f : Str} {pp : Option Addr} {ks : List Str} {ds : List D} (L : Lk K W F0 H0 rt PT KP) (hT : PT env) (he : EvX K W env te m) (hi : env[i]? = some (some (.oi pp c ks ds))) (hc : L2.Cls K (He.ga K c)) (hn : NoAttr K (He.ga K c) f) (hj : posK f ks = some j) (hk : ks.length < 1000)
    (k : ∀ x, Blk K F0 H0 KP Z.nx (env.set i (some (.oi pp c ks (ds.set j (toD x))))) (g x)) : Blk K F0 H0 KP (sFld K (tVar i) te f Z) env (m.bind g) := fun F H σ S h =>
  he F0 H0 F H σ _ S (L.ke hT S h fun x v F1 H1 e1 a1 r1 h1 => by
    have S1 := S.step a1
    obtain ⟨w, e, p, dx, vs, rfl, h0, hf, hp, hl, hr, hpp⟩ := S1.slot i _ hi
    refine ⟨_, e, p, _, dx, _, rfl, hp, hc, hn, by rw [List.length_zip, ← hl, Nat.min_self]; exact hk, ?_⟩
    refine k x F1 _ σ (S1.chgO hi rfl e hf h0 ⟨p, dx, vs.set j v, rfl, h0, hf, ?_, by simp [hl], Reps.set j hr r1, hpp⟩) h1
    rw [upd_same, putF_old hj hl])
/-- o.m(e, ..), o an object that stands still -/
theorem ev_meth {δ : Type} [ToDs δ] {ts : TA} {mo : Res α} {ma : Res δ} {c m : Str} {ks : List Str} {f : α × δ → Res β} (ho : EvX K W env te mo) (ha : EvA K W env ts ma) (hj : posK m ks = none) (hf : ∀ x : α, ∃ ds, toD x = .obj c ks ds) :
    EvX K W env (tMethQ (He.ga K c) m (spM K f) (WE W) te ts) (mo.bind fun x => ma.bind fun y => f (x, y)) := fun F0 H0 F H σ Q S k => by
  refine ho F0 H0 F H σ _ S (KE.cut S.ex k fun x v F1 H1 e1 a1 r1 k1 => ?_)
  obtain ⟨ds, e⟩ := hf x
  have r1' := r1
  rw [e] at r1
  obtain ⟨a, dx, vs, rfl, h2, h3, h4⟩ := r1
  refine ⟨a, dx, _, rfl, a1.in_ _ _ h2, lookup_no hj, ?_⟩
  refine ha F0 H0 F1 H1 σ _ (S.step a1) ?_
  cases ma with
  | ok y =>
    intro ws F2 H2 a2 r2
    have k1 : KE K W F1 H1 σ Q (f (x, y)) := k1
    have k1 := k1.adv a2
    refine ⟨F2, (x, y), a2.in_, ⟨_, ws, rfl, Rep.mono a2.f _ _ r1', r2⟩, ?_⟩
    revert k1
    generalize f (x, y) = z
    intro k1
    cases z with
    | ok z => exact k1
    | exc c => exact k1
    | stuck => exact k1.elim
  | exc c => exact k1
  | stuck => exact k1.elim
theorem ev_meth0 {δ : Type} [ToDs δ] {ts : TA} {mo : Res α} {ma : Res δ} {c m : Str} {ks : List Str} {f : α × δ → Res β} (ho : EvX K W env te mo) (ha : EvA K W env ts ma) (hj : posK m ks = none) (hf : ∀ x : α, ∃ ds, toD x = .obj c ks ds) :
    EvX K W env (tMeth (He.ga K c) m (spM K f) [] E0 te ts) (mo.bind fun x => ma.bind fun y => (f (x, y)).noexc) := fun F0 H0 F H σ Q S k => by
  refine ho F0 H0 F H σ _ S (KE.cut S.ex k fun x v F1 H1 e1 a1 r1 k1 => ?_)
  obtain ⟨ds, e⟩ := hf x
  have r1' := r1
  rw [e] at r1
  obtain ⟨a, dx, vs, rfl, h2, h3, h4⟩ := r1
  refine ⟨a, dx, _, rfl, a1.in_ _ _ h2, lookup_no hj, ?_⟩
  refine ha F0 H0 F1 H1 σ _ (S.step a1) ?_
  cases ma with
  | ok y =>
    intro ws F2 H2 a2 r2
    have k1 : KE K W F1 H1 σ Q (f (x, y)).noexc := k1
    have k1 := k1.adv a2
    refine ⟨F2, (x, y), a2.in_, by rw [List.append_nil]; exact ⟨_, ws, rfl, Rep.mono a2.f _ _ r1', r2⟩, ?_⟩
    revert k1
    generalize f (x, y) = z
    intro k1
    cases z with
    | ok z => exact k1
    | exc c => exact k1.elim
    | stuck => exact k1.elim
  | exc c => exact k1
  | stuck => exact k1.elim
/-- the heap without an object that a def changes -/
def hide (H : Hp) (p : Addr) : Hp := fun q => if q = p then none else H q
theorem hide_same {H : Hp} {p : Addr} : hide H p p = none := if_pos rfl
theorem hide_ne {H : Hp} {p q : Addr} (h : q ≠ p) : hide H p q = H q := if_neg h
theorem hide_ex {H : Hp} {p : Addr} : Ex (hide H p) H := fun a u q => by
  by_cases z : a = p
  · subst z; rw [hide_same] at q; cases q
  · rw [hide_ne z] at q; exact q
/-- the promise of an __init__ -/
def KIn (K : PySem.W.Frag) (F H : Hp) (p : Addr) (Q : VK) (E : XK) : Res α → Prop
  | .ok x => ∀ F' H', Adv F (hide H p) F' H' → Rep K F' (toD x) (.ref p) → Q .non H'
  | .exc c => ∀ F' H', Adv F (hide H p) F' H' → E (.ref (He.ga K c)) none H'
  | .stuck => False
def spI (K : PySem.W.Frag) (c : Str) {δ : Type} [ToDs δ] (f : δ → Res α) : Sp := fun vs H Q E => ∃ F y p dx ws, vs = .ref p :: ws ∧ Ex F H ∧ F p = none ∧ H p = some (.ins (He.ga K c) dx []) ∧ Reps K F (ToDs.ds y) ws ∧ KIn K F H p Q E (f y)
theorem ev_make {δ : Type} [ToDs δ] {ts : TA} {ma : Res δ} {c : Str} {f : δ → Res α} (ha : EvA K W env ts ma) : EvX K W env (tMakeQ (He.ga K c) (spI K c f) (WE W) ts) (ma.bind f) := fun F0 H0 F H σ Q S k => by
  refine ha F0 H0 F H σ _ S ?_
  cases ma with
  | ok y =>
    intro vs F1 H1 a1 r1 x dx nx ndx hne
    have k : KE K W F H σ Q (f y) := k
    have k := k.adv a1
    have ex1 : Ex H1 (hide (upd (upd H1 dx (.own x)) x (.ins (He.ga K c) dx [])) x) := fun a u q => by
      have z : a ≠ x := ne_of_none q nx
      rw [hide_ne z, upd_ne z, upd_ne (ne_of_none q ndx)]
      exact q
    have exF : Ex F1 (upd (upd H1 dx (.own x)) x (.ins (He.ga K c) dx [])) := fun a u q => hide_ex _ _ (ex1 _ _ (a1.in_ _ _ q))
    have ad : ∀ {F' H' : Hp}, Adv F1 (hide (upd (upd H1 dx (.own x)) x (.ins (He.ga K c) dx [])) x) F' H' → Adv F1 H1 F' H' := fun {F' H'} b =>
      ⟨b.f, ex1.trans b.h, b.in_, fun q h1 h2 => b.out q h1 (by
        cases e : H1 q with
        | none => exact absurd e h2
        | some o => rw [ex1 _ _ e]; simp)⟩
    refine ⟨F1, y, x, dx, vs, rfl, exF, none_of_ex a1.in_ nx, upd_same, r1, ?_⟩
    revert k
    generalize f y = z
    intro k
    cases z with
    | ok z => exact fun F' H' b r => ⟨rfl, k _ F' H' (ad b) r⟩
    | exc c => exact fun F' H' b => k F' H' (ad b)
    | stuck => exact k.elim
  | exc c => exact k
  | stuck => exact k.elim
/-- the end of an __init__ -/
theorem blk_finI {Q : VK} {x : τ} {p : Addr} {c : Str} {ks : List Str} {ds : List D} {i : Nat} (L : Lk K W F0 H0 (fun v H' => v = .ref p → Q .non H') PT KP) (hi : env[i]? = some (some (.oi (some p) c ks ds))) (hx : toD x = .obj c ks ds) : Blk K F0 H0 KP (fun _ H' => Q .non H') env (.ok x) := fun F H σ S h => by
  obtain ⟨v, e, q, dx, vs, rfl, h0, hf, hp, hl, hr, hpp⟩ := S.slot i _ hi
  have : q = p := hpp p rfl
  subst this
  obtain ⟨F', ex, S'⟩ := S.freezeI hi
  have hi' : i < env.length := by
    have := (List.getElem?_eq_some_iff.mp hi).1
    exact this
  obtain ⟨v2, e2, r2⟩ := S'.slot i (.im (.obj c ks ds)) (by rw [List.getElem?_set_self hi'])
  rw [e] at e2; cases e2
  exact L.ok x h (.ref q) F' H S'.adv (by rw [hx]; exact r2) rfl
end
section
variable {P : Program} {w : World} {K : PySem.W.Frag} {mg : Str → Option Value} {base : Heap} {x qual : Str} {params : Arguments} {body : List Stmt} {scope : Scope} {dvs : List V} {kws : List (Str × V)} {f : Addr} {fd : FuncData}
theorem sl_startI {K : PySem.W.Frag} {F H : Hp} {N : List Str} {ds : List D} {vs : List V} {p dx : Addr} {c : Str} {n0 : Str} (e : Ex F H) (hf : F p = none) (hp : H p = some (.ins (He.ga K c) dx [])) (r : Reps K F ds vs) :
    Sl K F (hide H p) F H (L2.start (n0 :: N) (.ref p :: vs)) (some (.oi (some p) c [] []) :: enStart N ds) := by
  have hl := r.length
  refine ⟨⟨Ex.refl F, hide_ex, e, fun q h _ => h⟩, fun i sk q => ?_, fun i j sk sk' a hij q q' o o' h1 => ?_, by simp [L2.start, enStart, hl]⟩
  · cases i with
    | zero =>
      simp at q; subst q
      exact ⟨.ref p, by simp [L2.start], p, dx, [], rfl, hide_same, hf, hp, rfl, rfl, fun a h => Option.some.inj h⟩
    | succ i =>
      have q : (enStart N ds)[i]? = some (some sk) := by simpa using q
      unfold enStart at q
      by_cases c : i < ds.length
      · rw [List.getElem?_append_left (by simpa using c), List.getElem?_map, List.getElem?_eq_getElem c] at q
        cases q
        obtain ⟨v, h1, h2⟩ := r.get (List.getElem?_eq_getElem c)
        refine ⟨v, ?_, h2⟩
        unfold L2.start
        rw [List.getElem?_append_left (by simp only [List.map_cons, List.length_cons, List.length_map]; omega), List.getElem?_map, List.getElem?_cons_succ, h1]; rfl
      · rw [List.getElem?_append_right (by simpa using c), List.getElem?_replicate] at q
        split at q <;> cases q
  · have im : ∀ (i : Nat) (sk : Sk), (some (Sk.oi (some p) c [] []) :: enStart N ds)[i]? = some (some sk) → sk.own = true → i = 0 := by
      intro i sk q o
      cases i with
      | zero => rfl
      | succ i =>
        have q : (enStart N ds)[i]? = some (some sk) := by simpa using q
        unfold enStart at q
        by_cases c : i < ds.length
        · rw [List.getElem?_append_left (by simpa using c), List.getElem?_map, List.getElem?_eq_getElem c] at q
          cases q; cases o
        · rw [List.getElem?_append_right (by simpa using c), List.getElem?_replicate] at q
          split at q <;> cases q
    exact absurd ((im i sk q o).trans (im j sk' q' o').symm) hij
theorem fn_okI {N ps : List Str} {n0 : Str} {k : Nat} {β τ : Type} [ToDs β] [ToD τ] {fM : β → Res τ} {c : Str} (F : FunD K x qual params body scope dvs kws f fd) (S : FnScope (n0 :: N) ps scope) (hl : ∀ y : β, (ToDs.ds y).length + 1 = ps.length)
    (hbody : ∀ (cdv : Value) (A : Around) (outer : List Env) (s : Shared) (H : Hp) (E : XK), Room k (A.deeper (PyProof.Rows.envOfC qual scope s.heap.objs.size f cdv)) →
      ∃ t, PSs (cxOf (L2.CX P w) P w K mg base (n0 :: N) qual scope f cdv A outer s H E) body t ∧
        ∀ (y : β) (p : Addr) (F0 H0 : Hp) (Q : VK) (KP : Res τ → Prop), Lk K (fun cls d _ H => E cls d H) F0 H0 (fun v H' => v = .ref p → Q .non H') (fun _ => True) KP → Blk K F0 H0 KP (t { nx := fun _ H' => Q .non H', rt := Q }) (some (.oi (some p) c [] []) :: enStart N (ToDs.ds y)) (fM y)) :
    FnOk P w K mg base (L2.CX P w) (k + 1) f fd ps (spI K c fM) := by
  refine F.ok S (fun vs H Q E h => ?_) (fun cdv A outer s H vs Q E hr h => ?_)
  · obtain ⟨F, y, p, dx, ws, rfl, _, _, _, r, _⟩ := h
    rw [← hl y, List.length_cons, ← r.length]
  · obtain ⟨t, h1, h2⟩ := hbody cdv A outer s H E hr
    refine ⟨t, h1, ?_⟩
    obtain ⟨F, y, p, dx, ws, rfl, e, hf, hp, r, q⟩ := h
    refine h2 y p F (hide H p) Q (fun r => KIn K F H p Q E r) ⟨fun z h v F' H' a r z => ?_, fun c F' H' σ env h _ S' => h F' H' S'.adv, fun z => z⟩ F H _ (sl_startI e hf hp r) q
    subst z
    exact h F' H' a r
end
end Mi
namespace Mi
open PySem PySem.Spec L2
open Evl (Ex)
structure T5 (α β γ δ ε : Type) where
  a : α
  b : β
  c : γ
  e : δ
  f : ε
structure T6 (α β γ δ ε ζ : Type) where
  a : α
  b : β
  c : γ
  e : δ
  f : ε
  g : ζ
structure T8 (α β γ δ ε ζ η θ : Type) where
  a : α
  b : β
  c : γ
  e : δ
  f : ε
  g : ζ
  h : η
  i : θ
instance {α β γ δ ε : Type} [ToD α] [ToD β] [ToD γ] [ToD δ] [ToD ε] : ToD (T5 α β γ δ ε) := ⟨fun x => .tup [ToD.d x.a, ToD.d x.b, ToD.d x.c, ToD.d x.e, ToD.d x.f]⟩
instance {α β γ δ ε ζ : Type} [ToD α] [ToD β] [ToD γ] [ToD δ] [ToD ε] [ToD ζ] : ToD (T6 α β γ δ ε ζ) := ⟨fun x => .tup [ToD.d x.a, ToD.d x.b, ToD.d x.c, ToD.d x.e, ToD.d x.f, ToD.d x.g]⟩
instance {α β γ δ ε ζ η θ : Type} [ToD α] [ToD β] [ToD γ] [ToD δ] [ToD ε] [ToD ζ] [ToD η] [ToD θ] : ToD (T8 α β γ δ ε ζ η θ) := ⟨fun x => .tup [ToD.d x.a, ToD.d x.b, ToD.d x.c, ToD.d x.e, ToD.d x.f, ToD.d x.g, ToD.d x.h, ToD.d x.i]⟩
def optGet {α : Type} : Option α → Res α
  | some x => .ok x
  | none => .stuck
theorem optGet_ok {α : Type} [ToD α] : ∀ (x : Option α) (y : α), optGet x = .ok y → toD y = toD x
  | some x, y, h => by cases h; rfl
  | none, y, h => by cases h
theorem optGet_x {α : Type} : ∀ (x : Option α) (c : Str), optGet x ≠ .exc c
  | some x, c, h => by cases h
  | none, c, h => by cases h
def D.asT1 : D → Res (T1 D)
  | .tup [a] => .ok ⟨a⟩
  | _ => .stuck
def D.asT2 : D → Res (T2 D D)
  | .tup [a, b] => .ok ⟨a, b⟩
  | _ => .stuck
def D.asT3 : D → Res (T3 D D D)
  | .tup [a, b, c] => .ok ⟨a, b, c⟩
  | _ => .stuck
theorem asT1_ok : ∀ (x : D) (y : T1 D), x.asT1 = .ok y → toD y = x := by
  intro x y h
  unfold D.asT1 at h
  split at h
  · cases h; rfl
  · cases h
theorem asT2_ok : ∀ (x : D) (y : T2 D D), x.asT2 = .ok y → toD y = x := by
  intro x y h
  unfold D.asT2 at h
  split at h
  · cases h; rfl
  · cases h
theorem asT3_ok : ∀ (x : D) (y : T3 D D D), x.asT3 = .ok y → toD y = x := by
  intro x y h
  unfold D.asT3 at h
  split at h
  · cases h; rfl
  · cases h
theorem asT1_x (x : D) (c : Str) : x.asT1 ≠ .exc c := by intro h; unfold D.asT1 at h; split at h <;> cases h
theorem asT2_x (x : D) (c : Str) : x.asT2 ≠ .exc c := by intro h; unfold D.asT2 at h; split at h <;> cases h
theorem asT3_x (x : D) (c : Str) : x.asT3 ≠ .exc c := by intro h; unfold D.asT3 at h; split at h <;> cases h
def D.lenR : D → Res Int
  | .tup xs => .ok (xs.length : Int)
  | .lst xs => .ok (xs.length : Int)
  | _ => .stuck
section
variable {K : PySem.W.Frag} {W : WX} {F0 H0 F H F' H' F1 : Hp} {rt : VK} {PT : En → Prop} {env env' : En} {α β γ τ : Type} [ToD α] [ToD β] [ToD γ] [ToD τ] {KP : Res τ → Prop} {te ta tb tc : TE} {tt : TT} {Z : Ends} {t u : TS} {T : L2.St → Hp → Prop} {σ : L2.St}
theorem ev_castG {m : Res α} {f : α → Res β} (hf : ∀ x y, f x = .ok y → toD y = toD x) (hx : ∀ x c, f x ≠ .exc c) (h : EvX K W env te m) : EvX K W env te (m.bind f) := fun F0 H0 F H σ Q S k => by
  refine h F0 H0 F H σ _ S ?_
  cases m with
  | ok x =>
    intro v F1 H1 a r
    have k : KE K W F H σ Q (f x) := k
    cases e : f x with
    | ok y => rw [e] at k; exact k v F1 H1 a (by rw [hf x y e]; exact r)
    | exc c => exact absurd e (hx x c)
    | stuck => rw [e] at k; exact k.elim
  | exc c => exact k
  | stuck => exact k.elim
theorem ev_lenD {m : Res D} (h : EvX K W env te m) : EvX K W env (tCB (rLenS K) (tCons te tNil)) (m.bind fun x => D.lenR x) := fun F0 H0 F H σ Q S k => by
  refine h F0 H0 F H σ _ S (KE.cut S.ex k fun x v F1 H1 e1 a1 r1 k1 => ?_)
  have k1 : KE K W F1 H1 σ Q (D.lenR x) := k1
  cases x with
  | tup xs =>
    obtain ⟨a, vs, rfl, h2, h3⟩ := r1
    refine ⟨a, vs, rfl, .inr (Evl.ex_t a1.in_ h2), ?_⟩
    have := k1 (.int xs.length) F1 H1 (Adv.refl a1.in_) rfl
    rw [← h3.length]; exact this
  | lst xs =>
    obtain ⟨a, vs, rfl, h2, h3⟩ := r1
    refine ⟨a, vs, rfl, .inl (Evl.ex_l a1.in_ h2), ?_⟩
    have := k1 (.int xs.length) F1 H1 (Adv.refl a1.in_) rfl
    rw [← h3.length]; exact this
  | _ => exact k1.elim
theorem cx_lenTu : CrX K (rLenS K) (fun (p : Tu α × Unit) => .ok (p.1.xs.length : Int)) := fun F H x vs Q e r k => by
  obtain ⟨v, rs, rfl, r1, r2⟩ := r
  cases (show rs = [] from r2)
  obtain ⟨a, ws, rfl, h2, h3⟩ := r1
  refine ⟨a, ws, rfl, .inr (Evl.ex_t e h2), ?_⟩
  have := k (.int x.1.xs.length) F H (Adv.refl e) rfl
  rw [← h3.length, List.length_map]; exact this
end
end Mi
set_option maxHeartbeats 1000000
namespace Mi
open PySem PySem.Spec L2
open Evl (Ex)
def CPowX (i j : Int) : Prop := 0 ≤ j ∧ (Builtin.Int.intBits i : Int) * j ≤ 2 ^ 27
theorem op_powX {X : Cx} : OpR X (binaryOp .Pow) (rI CPowX fun i j => .int (i ^ j.toNat)) := opI fun _ _ _ _ _ _ _ hc q => PyProof.Rows.pow_int hc.1 hc.2 q
end Mi
namespace Mi
open PySem PySem.Spec L2
/-- a promise of nothing -/
theorem fnok_stuck {P : Program} {w : World} {K : PySem.W.Frag} {mg : Str → Option Value} {base : Heap} {k : Nat} {f : Addr} {fd : FuncData} {ps : List Str} {β τ : Type} [ToDs β] [ToD τ] (fM : β → Res τ) (h : ∀ y, fM y = .stuck) : FnOk P w K mg base (L2.CX P w) k f fd ps (spM K fM) := by
  have no : ∀ vs H Q E, ¬ spM K fM vs H Q E := by
    rintro vs H Q E ⟨F, x, _, _, q⟩
    rw [h x] at q
    exact q
  exact ⟨fun vs H Q E q => absurd q (no _ _ _ _), fun A outer s H args us vs Q E _ _ _ _ q => absurd q (no _ _ _ _)⟩
end Mi
set_option maxHeartbeats 1000000
namespace Mi
open PySem PySem.Spec L2
open Evl (Ex)
structure T7 (α β γ δ ε ζ η : Type) where
  a : α
  b : β
  c : γ
  e : δ
  f : ε
  g : ζ
  h : η
instance {α β γ δ ε ζ η : Type} [ToD α] [ToD β] [ToD γ] [ToD δ] [ToD ε] [ToD ζ] [ToD η] : ToD (T7 α β γ δ ε ζ η) := ⟨fun x => .tup [ToD.d x.a, ToD.d x.b, ToD.d x.c, ToD.d x.e, ToD.d x.f, ToD.d x.g, ToD.d x.h]⟩

/-! ### the module's constants -/
def tupB (K : PySem.W.Frag) (a : Addr) : Option (List Value) := match K.lookup a with
  | some o => match o.data with
    | .seq its n => if o.cls = .type "tuple" ∧ its.size ≤ sizeLine then some its.toList else none
    | _ => none
  | none => none
def lstB (K : PySem.W.Frag) (a : Addr) : Option (List Value) := match K.lookup a with
  | some o => match o.data with
    | .seq its n => if o.cls = .type "list" ∧ o.dict = none ∧ its.size ≤ sizeLine then some its.toList else none
    | _ => none
  | none => none
mutual
def repB (K : PySem.W.Frag) : D → Value → Bool
  | .non, u => decide (u = .none)
  | .bl b, u => decide (u = .bool b)
  | .int i, .int j _ => decide (j = i)
  | .str s, .str z _ => decide (z = s)
  | .ty n, u => decide (u = .type n)
  | .tup ds, .ref a => (match tupB K a with
    | some us => repsB K ds us
    | none => false)
  | .lst ds, .ref a => (match lstB K a with
    | some us => repsB K ds us
    | none => false)
  | _, _ => false
def repsB (K : PySem.W.Frag) : List D → List Value → Bool
  | [], us => us.isEmpty
  | d :: ds, u :: us => repB K d u && repsB K ds us
  | _ :: _, [] => false
end
theorem tupB_ok {K : PySem.W.Frag} {a : Addr} {us : List Value} (h : tupB K a = some us) {xs : List V} (r : Vals xs us) (F : Hp) : SqT K F a xs := by
  unfold tupB at h
  split at h
  · rename_i o e
    split at h
    · rename_i its n ed
      split at h
      · rename_i hc
        cases h
        exact .inr ⟨o, its, n, e, hc.1, ed, hc.2, r⟩
      · cases h
    · cases h
  · cases h
theorem lstB_ok {K : PySem.W.Frag} {a : Addr} {us : List Value} (h : lstB K a = some us) {xs : List V} (r : Vals xs us) (F : Hp) : SqL K F a xs := by
  unfold lstB at h
  split at h
  · rename_i o e
    split at h
    · rename_i its n ed
      split at h
      · rename_i hc
        cases h
        exact .inr ⟨o, its, n, e, hc.1, hc.2.1, ed, hc.2.2, r⟩
      · cases h
    · cases h
  · cases h
mutual
theorem repB_ok {K : PySem.W.Frag} : ∀ (d : D) (u : Value), repB K d u = true → ∃ v, RelV v u ∧ ∀ F, Rep K F d v
  | .non, u, h => ⟨.non, (of_decide_eq_true (show decide (u = Value.none) = true from h) : u = Value.none), fun _ => rfl⟩
  | .bl b, u, h => ⟨.bl b, (of_decide_eq_true (show decide (u = Value.bool b) = true from h) : u = Value.bool b), fun _ => rfl⟩
  | .ty n, u, h => ⟨.ty n, (of_decide_eq_true (show decide (u = Value.type n) = true from h) : u = Value.type n), fun _ => rfl⟩
  | .int i, u, h => by
    cases u with
    | int j t => exact ⟨.int i, ⟨t, by rw [of_decide_eq_true (show decide (j = i) = true from h)]⟩, fun _ => rfl⟩
    | _ => cases h
  | .str s, u, h => by
    cases u with
    | str z t => exact ⟨.str s, ⟨t, by rw [of_decide_eq_true (show decide (z = s) = true from h)]⟩, fun _ => rfl⟩
    | _ => cases h
  | .tup ds, u, h => by
    cases u with
    | ref a =>
      rw [repB] at h
      split at h
      · rename_i us e
        obtain ⟨xs, r, hr⟩ := repsB_ok ds us h
        exact ⟨.ref a, rfl, fun F => ⟨a, xs, rfl, tupB_ok e r F, hr F⟩⟩
      · cases h
    | _ => cases h
  | .lst ds, u, h => by
    cases u with
    | ref a =>
      rw [repB] at h
      split at h
      · rename_i us e
        obtain ⟨xs, r, hr⟩ := repsB_ok ds us h
        exact ⟨.ref a, rfl, fun F => ⟨a, xs, rfl, lstB_ok e r F, hr F⟩⟩
      · cases h
    | _ => cases h
  | .obj c ks ds, u, h => by cases u <;> cases h
theorem repsB_ok {K : PySem.W.Frag} : ∀ (ds : List D) (us : List Value), repsB K ds us = true → ∃ xs, Vals xs us ∧ ∀ F, Reps K F ds xs
  | [], us, h => by
    cases us with
    | nil => exact ⟨[], .nil, fun _ => rfl⟩
    | cons u us => cases h
  | d :: ds, us, h => by
    cases us with
    | nil => cases h
    | cons u us =>
      rw [repsB] at h
      obtain ⟨h1, h2⟩ := He.ba h
      obtain ⟨v, r, hv⟩ := repB_ok d u h1
      obtain ⟨xs, rs, hx⟩ := repsB_ok ds us h2
      exact ⟨v :: xs, .cons r rs, fun F => ⟨v, xs, rfl, hv F, hx F⟩⟩
end
def conB (K : PySem.W.Frag) (cs : List (Str × D)) : Bool := cs.all fun c => match PySem.W.nsIn K mainGlobals c.1 with
  | some (some u) => repB K c.2 u
  | _ => false
/-- a name of the module that stands for data -/
def ConF (K : PySem.W.Frag) (mg : Str → Option Value) (x : Str) (d : D) : Prop := ∃ u v, mg x = some u ∧ RelV v u ∧ ∀ F, Rep K F d v
theorem con_of {K : PySem.W.Frag} {h : Heap} {mg : Str → Option Value} {cs : List (Str × D)} (X : K.In h) (G : h.Ns mainGlobals mg) (c : conB K cs = true) {x : Str} {d : D} (m : (x, d) ∈ cs) : ConF K mg x d := by
  have q := List.all_eq_true.mp c _ m
  dsimp only at q
  split at q
  · rename_i u e
    obtain ⟨v, r, hv⟩ := repB_ok d u q
    exact ⟨u, v, PySem.W.mg_of X G e, r, hv⟩
  · cases q
section
variable {K : PySem.W.Frag} {mg : Str → Option Value} {x : Str} {d : D}
noncomputable def ConF.u (h : ConF K mg x d) : Value := h.choose
noncomputable def ConF.v (h : ConF K mg x d) : V := h.choose_spec.choose
theorem ConF.m (h : ConF K mg x d) : mg x = some h.u := h.choose_spec.choose_spec.1
theorem ConF.r (h : ConF K mg x d) : RelV h.v h.u := h.choose_spec.choose_spec.2.1
theorem ConF.p (h : ConF K mg x d) (F : Hp) : Rep K F d h.v := h.choose_spec.choose_spec.2.2 F
theorem ev_con {α : Type} [ToD α] {W : WX} {env : En} {z : α} (h : ConF K mg x (toD z)) : EvX K W env (tC h.v) (.ok z) := fun F0 H0 F H σ Q S k => k _ F H (Adv.refl S.ex) (h.p F)
end
/-! ### is True, is False -/
theorem opx_isB {K : PySem.W.Frag} : OpX K rIsB (fun (i j : Bool) => .ok (decide (i = j))) := fun F H x y v u Q e h1 h2 k => by
  cases (show v = V.bl x from h1); cases (show u = V.bl y from h2)
  exact ⟨x, y, rfl, rfl, k _ F H (Adv.refl e) rfl⟩
end Mi
set_option maxHeartbeats 1000000
namespace Mi
open PySem PySem.Spec L2
/-! ### what follows, in plain mathematics -/
theorem need_bind {α β : Type} {p : Prop} (m : Res α) (f : α → Res β) : (Res.need p m).bind f = Res.need p (m.bind f) := by
  by_cases h : p
  · rw [Res.need_pos h, Res.need_pos h]
  · rw [Res.need_neg h, Res.need_neg h]; rfl
theorem cond_dec {α : Type} {p : Prop} [Decidable p] (a b : α) : cond (decide p) a b = if p then a else b := by
  by_cases h : p <;> simp [h]
theorem cond_not {α : Type} {p : Bool} (a b : α) : cond (!p) a b = cond p b a := by cases p <;> rfl
theorem ibits_le {i : Int} {n : Nat} (h : Builtin.Int.intBits i ≤ n) : i.natAbs < 2 ^ n := by
  unfold Builtin.Int.intBits at h
  split at h
  · rename_i h0
    have : i = 0 := by simpa using h0
    subst this
    exact Nat.two_pow_pos n
  · rename_i h0
    have hne : i.natAbs ≠ 0 := by
      intro z
      apply h0
      have : i = 0 := Int.natAbs_eq_zero.mp z
      simp [this]
    have h1 : i.natAbs.log2 < n := by omega
    exact (Nat.log2_lt hne).mp h1
theorem le_ibits {i : Int} {n : Nat} (h : i.natAbs < 2 ^ n) : Builtin.Int.intBits i ≤ n := by
  unfold Builtin.Int.intBits
  split
  · exact Nat.zero_le _
  · rename_i h0
    have hne : i.natAbs ≠ 0 := by
      intro z
      apply h0
      have : i = 0 := Int.natAbs_eq_zero.mp z
      simp [this]
    have := (Nat.log2_lt hne).mpr h
    omega
theorem cmulx {i j : Int} {a b : Nat} (ha : i.natAbs < 2 ^ a) (hb : j.natAbs < 2 ^ b) (h : a + b ≤ 134217728) : CMulX i j := mulx_ok ha hb h
theorem need_mulx {α : Type} {i j : Int} {m : Res α} {a b : Nat} (ha : i.natAbs < 2 ^ a) (hb : j.natAbs < 2 ^ b) (h : a + b ≤ 134217728) : Res.need (CMulX i j) m = m := Res.need_pos (cmulx ha hb h)
theorem pow_add_lt {x y a b : Nat} (ha : x < 2 ^ a) (hb : y < 2 ^ b) : x * y < 2 ^ (a + b) := by
  rw [Nat.pow_add]; exact Nat.mul_lt_mul'' ha hb
theorem idx_nat {α : Type} {xs : List α} {j : Nat} {v : α} (h : xs[j]? = some v) : idx xs (j : Int) = .ok v := by
  unfold idx; rw [atI_nat h]
theorem idx_int {α : Type} {xs : List α} {i : Int} {v : α} (h0 : 0 ≤ i) (h : xs[i.toNat]? = some v) : idx xs i = .ok v := by
  have : i = (i.toNat : Int) := by omega
  rw [this]; exact idx_nat h
theorem idx_last {α : Type} (xs : List α) (v : α) : idx (xs ++ [v]) (-1) = .ok v := by
  unfold idx; rw [atI_last]
theorem pow31 : ((2 : Int) ^ (31 : Int).toNat) = 2147483648 := by decide +kernel
theorem pow18 : ((10 : Int) ^ (18 : Int).toNat) = 1000000000000000000 := by decide +kernel
theorem m31_lt : (2147483648 : Int).natAbs < 2 ^ 32 := by decide +kernel
theorem compL_none {α β : Type} {t : α → Res Bool} {e : α → Res β} {xs : List α} (h : ∀ x ∈ xs, t x = .ok false) : compL t e xs = .ok [] := by
  induction xs with
  | nil => rfl
  | cons x r ih =>
    show (t x).bind _ = _
    rw [h x List.mem_cons_self]
    exact ih fun y hy => h y (List.mem_cons_of_mem _ hy)
theorem compL_map {α β : Type} {t : α → Res Bool} {e : α → Res β} {g : α → β} {xs : List α} (ht : ∀ x ∈ xs, t x = .ok true) (he : ∀ x ∈ xs, e x = .ok (g x)) : compL t e xs = .ok (xs.map g) := by
  induction xs with
  | nil => rfl
  | cons x r ih =>
    show (t x).bind _ = _
    rw [ht x List.mem_cons_self]
    show (e x).bind _ = _
    rw [he x List.mem_cons_self]
    show (compL t e r).bind _ = _
    rw [ih (fun y hy => ht y (List.mem_cons_of_mem _ hy)) fun y hy => he y (List.mem_cons_of_mem _ hy)]
    rfl
theorem bit1 (x : Int) : Builtin.bitAnd x 1 = x % 2 := by
  have := PySem.W.kbt_mask x 1
  simpa using this
theorem bind_ite {α β : Type} {p : Prop} [Decidable p] (a b : Res α) (f : α → Res β) : (if p then a else b).bind f = if p then a.bind f else b.bind f := by split <;> rfl
theorem idx_getLast {α : Type} {xs : List α} {v : α} (h : xs.getLast? = some v) : idx xs (-1) = .ok v := by
  obtain ⟨ys, rfl⟩ := List.getLast?_eq_some_iff.mp h
  exact idx_last ys v
/-! == of data -/
theorem pyEq_int (i j : Int) : pyEq (.int i) (.int j) = (i == j) := by simp [pyEq, D.py, PyData.eqv]
mutual
/-- no truth values within -/
def D.nob : D → Bool
  | .bl _ => false
  | .ty _ => false
  | .obj _ _ _ => false
  | .tup xs => nobL xs
  | .lst xs => nobL xs
  | _ => true
def nobL : List D → Bool
  | [] => true
  | x :: xs => D.nob x && nobL xs
end
mutual
theorem pyEq_iff : ∀ (x y : D), x.nob = true → y.nob = true → (PyData.eqv x.py y.py = true ↔ x = y)
  | .non, y, _, h => by cases y <;> simp_all [D.py, PyData.eqv, D.nob]
  | .int i, y, _, h => by cases y <;> simp_all [D.py, PyData.eqv, D.nob]
  | .str s, y, _, h => by cases y <;> simp_all [D.py, PyData.eqv, D.nob]
  | .bl b, y, h, _ => by cases h
  | .ty b, y, h, _ => by cases h
  | .obj a b c, y, h, _ => by cases h
  | .tup xs, y, h1, h => by
    cases y with
    | tup ys =>
      have := pyEqL_iff xs ys h1 h
      simp only [D.py, PyData.eqv, D.tup.injEq]; exact this
    | bl b => cases h
    | ty b => cases h
    | obj a b c => cases h
    | _ => simp [D.py, PyData.eqv]
  | .lst xs, y, h1, h => by
    cases y with
    | lst ys =>
      have := pyEqL_iff xs ys h1 h
      simp only [D.py, PyData.eqv, D.lst.injEq]; exact this
    | bl b => cases h
    | ty b => cases h
    | obj a b c => cases h
    | _ => simp [D.py, PyData.eqv]
theorem pyEqL_iff : ∀ (xs ys : List D), nobL xs = true → nobL ys = true → (PyData.eqvAll (pyL xs) (pyL ys) = true ↔ xs = ys)
  | [], ys, _, h => by cases ys <;> simp [pyL, PyData.eqvAll]
  | x :: xs, ys, h1, h => by
    cases ys with
    | nil => simp [pyL, PyData.eqvAll]
    | cons y ys =>
      obtain ⟨a1, a2⟩ := Bool.and_eq_true_iff.mp (show (D.nob x && nobL xs) = true from h1)
      obtain ⟨b1, b2⟩ := Bool.and_eq_true_iff.mp (show (D.nob y && nobL ys) = true from h)
      simp only [pyL, PyData.eqvAll, Bool.and_eq_true, pyEq_iff x y a1 b1, pyEqL_iff xs ys a2 b2, List.cons.injEq]
end
theorem pyEq_dec {x y : D} (hx : x.nob = true) (hy : y.nob = true) : pyEq x y = true ↔ x = y := pyEq_iff x y hx hy
theorem pyEq_self {x : D} (hx : x.nob = true) : pyEq x x = true := (pyEq_dec hx hx).mpr rfl
theorem pyEq_ne {x y : D} (hx : x.nob = true) (hy : y.nob = true) (h : x ≠ y) : pyEq x y = false := by
  cases e : pyEq x y with
  | false => rfl
  | true => exact absurd ((pyEq_dec hx hy).mp e) h
theorem nob_ints : ∀ xs : List Int, nobL (xs.map D.int) = true
  | [] => rfl
  | _ :: xs => nob_ints xs
theorem nob_strs : ∀ xs : List Str, nobL (xs.map D.str) = true
  | [] => rfl
  | _ :: xs => nob_strs xs
theorem flat_ints : ∀ xs : List Int, flatL (xs.map D.int) = true
  | [] => rfl
  | _ :: xs => flat_ints xs
theorem lay_ints : ∀ xs : List Int, PyData.canLayAll0 (pyL (xs.map D.int)) = true
  | [] => rfl
  | _ :: xs => by show (true && _) = true; rw [lay_ints xs]; rfl
theorem dep_ints : ∀ xs : List Int, PyData.depthAll (pyL (xs.map D.int)) = 0
  | [] => rfl
  | _ :: xs => by show max 0 _ = 0; rw [dep_ints xs]; rfl
theorem okq_ints (xs : List Int) : (toD xs).okq = true := by
  show (flatL (xs.map D.int) && (PyData.canLayAll0 (pyL (xs.map D.int)) && decide (PyData.depthAll (pyL (xs.map D.int)) + 1 ≤ 64))) = true
  rw [flat_ints, lay_ints, dep_ints]; rfl
theorem toD_ints_inj {xs ys : List Int} (h : toD xs = toD ys) : xs = ys := by
  have h : xs.map D.int = ys.map D.int := D.lst.inj h
  exact List.map_inj_right (fun a b q => D.int.inj q) |>.mp h
theorem pyEq_ints (xs ys : List Int) : pyEq (toD xs) (toD ys) = decide (xs = ys) := by
  by_cases h : xs = ys
  · subst h; rw [pyEq_self (show (toD xs).nob = true from nob_ints xs)]; simp
  · rw [pyEq_ne (show (toD xs).nob = true from nob_ints xs) (show (toD ys).nob = true from nob_ints ys) fun e => h (toD_ints_inj e)]; simp [h]
theorem lmin_mem {es : List Int} (h : 0 < es.length) : lmin es ∈ es := by
  cases es with
  | nil => simp at h
  | cons x r =>
    rcases foldl_min_mem r x with q | q
    · show r.foldl min x ∈ x :: r
      rw [q]; exact List.mem_cons_self
    · exact List.mem_cons_of_mem _ q
theorem lmax_mem {es : List Int} (h : 0 < es.length) : lmax es ∈ es := by
  cases es with
  | nil => simp at h
  | cons x r =>
    rcases foldl_max_mem r x with q | q
    · show r.foldl max x ∈ x :: r
      rw [q]; exact List.mem_cons_self
    · exact List.mem_cons_of_mem _ q
theorem pyRange_drop {n i : Nat} (h : i < n) : (pyRange 0 (n : Int)).drop i = (i : Int) :: (pyRange 0 (n : Int)).drop (i + 1) := by
  have hl : (pyRange 0 (n : Int)).length = n := by rw [pyRange_len]; omega
  rw [List.drop_eq_getElem_cons (by omega)]
  congr 1
  have := pyRange_get (lo := 0) (hi := (n : Int)) (i := i) (by omega)
  rw [List.getElem?_eq_getElem (by omega)] at this
  have := Option.some.inj this
  omega
theorem pyRange_nonneg {k n : Int} (h : k ∈ pyRange 0 n) : 0 ≤ k := by
  obtain ⟨i, _, rfl⟩ := List.mem_map.mp h
  omega
theorem toD_D (x : D) : toD x = x := rfl
theorem okq_int (i : Int) : (toD (D.int i)).okq = true := rfl
theorem compL_get {α β : Type} (f : α → Res β) {xs : List α} {ys : List β} (h : xs.length = ys.length) (he : ∀ i (h1 : i < xs.length) (h2 : i < ys.length), f xs[i] = .ok ys[i]) : compL (fun _ => .ok true) f xs = .ok ys := by
  induction xs generalizing ys with
  | nil => cases ys with
    | nil => rfl
    | cons y r => simp at h
  | cons x xs ih =>
    cases ys with
    | nil => simp at h
    | cons y ys =>
      show (f x).bind _ = _
      rw [show f x = .ok y from he 0 (by simp) (by simp)]
      show (compL (fun _ => .ok true) f xs).bind _ = _
      rw [ih (by simpa using h) fun i h1 h2 => he (i + 1) (by simp; omega) (by simp; omega)]
      rfl
end Mi
set_option maxHeartbeats 1000000
namespace Mi
/-! ### primes -/
def IsP (n : Nat) : Prop := 2 ≤ n ∧ ∀ d, d ∣ n → d = 1 ∨ d = n
theorem IsP.cop {p a : Nat} (h : IsP p) (ha : ¬ p ∣ a) : Nat.Coprime p a := by
  rcases h.2 _ (Nat.gcd_dvd_left p a) with e | e
  · exact e
  · exact absurd (e ▸ Nat.gcd_dvd_right p a) ha
theorem IsP.dvd_mul {p a b : Nat} (h : IsP p) (hd : p ∣ a * b) : p ∣ a ∨ p ∣ b := by
  by_cases ha : p ∣ a
  · exact .inl ha
  · exact .inr ((h.cop ha).dvd_of_dvd_mul_left hd)
theorem IsP.dvd_pow {p a : Nat} (h : IsP p) : ∀ k, p ∣ a ^ k → p ∣ a
  | 0, hd => by
    rw [Nat.pow_zero] at hd
    have := Nat.le_of_dvd (by decide) hd
    have := h.1
    omega
  | k + 1, hd => by
    rw [Nat.pow_succ] at hd
    rcases h.dvd_mul hd with q | q
    · exact h.dvd_pow k q
    · exact q
def prodL (l : List Nat) : Nat := l.foldr (· * ·) 1
theorem prodL_perm {l m : List Nat} (h : l.Perm m) : prodL l = prodL m := by
  induction h with
  | nil => rfl
  | cons x _ ih => simp only [prodL, List.foldr_cons] at *; rw [ih]
  | swap x y l => simp only [prodL, List.foldr_cons]; rw [Nat.mul_left_comm]
  | trans _ _ h1 h2 => exact h1.trans h2
theorem perm_of_sub : ∀ (l L : List Nat), l.Nodup → (∀ x ∈ l, x ∈ L) → L.length ≤ l.length → l.Perm L := by
  intro l
  induction l with
  | nil =>
    intro L _ _ h
    have : L = [] := List.eq_nil_of_length_eq_zero (by simpa using h)
    subst this; exact List.Perm.nil
  | cons x r ih =>
    intro L hn hs hl
    obtain ⟨n1, n2⟩ := List.nodup_cons.mp hn
    have hx := hs x List.mem_cons_self
    have e := List.length_erase_of_mem hx
    have hp := List.length_pos_of_mem hx
    have q := ih (L.erase x) n2 (fun y hy => (List.mem_erase_of_ne (by intro z; subst z; exact n1 hy)).mpr (hs y (List.mem_cons_of_mem _ hy))) (by rw [e]; simp at hl; omega)
    exact (q.cons x).trans (List.perm_cons_erase hx).symm
theorem prod_mod (a p : Nat) : ∀ l : List Nat, prodL (l.map fun x => a * x % p) % p = a ^ l.length * prodL l % p := by
  intro l
  induction l with
  | nil => simp [prodL]
  | cons x r ih =>
    show (a * x % p) * prodL (r.map fun x => a * x % p) % p = a ^ (r.length + 1) * (x * prodL r) % p
    rw [Nat.mul_mod, ih, Nat.mod_mod, ← Nat.mul_mod]
    congr 1
    rw [Nat.pow_succ]
    ac_rfl
theorem prod_cop {p : Nat} (h : IsP p) : ∀ l : List Nat, (∀ x ∈ l, 0 < x ∧ x < p) → ¬ p ∣ prodL l := by
  intro l
  induction l with
  | nil =>
    intro _ hd
    have := Nat.le_of_dvd (by decide) hd
    have := h.1
    simp [prodL] at *; omega
  | cons x r ih =>
    intro hx hd
    rcases h.dvd_mul hd with q | q
    · have := hx x List.mem_cons_self
      have := Nat.le_of_dvd this.1 q
      omega
    · exact ih (fun y hy => hx y (List.mem_cons_of_mem _ hy)) q
theorem dvd_sub_of_mod {x y p : Nat} (h : y ≤ x) (e : x % p = y % p) : p ∣ x - y := Nat.dvd_of_mod_eq_zero (Nat.sub_mod_eq_zero_of_mod_eq e)
theorem inj_mod {p a x y : Nat} (h : IsP p) (ha : ¬ p ∣ a) (hx : x < p) (hy : y < p) (e : a * x % p = a * y % p) : x = y := by
  rcases Nat.le_total y x with q | q
  · have d := dvd_sub_of_mod (Nat.mul_le_mul_left a q) e
    rw [← Nat.mul_sub] at d
    rcases h.dvd_mul d with d | d
    · exact absurd d ha
    · have := Nat.eq_zero_of_dvd_of_lt d (by omega); omega
  · have d := dvd_sub_of_mod (Nat.mul_le_mul_left a q) e.symm
    rw [← Nat.mul_sub] at d
    rcases h.dvd_mul d with d | d
    · exact absurd d ha
    · have := Nat.eq_zero_of_dvd_of_lt d (by omega); omega
/-- Fermat -/
theorem fermat {p a : Nat} (h : IsP p) (ha : ¬ p ∣ a) : a ^ (p - 1) % p = 1 := by
  have h2 := h.1
  have hL : ∀ x ∈ List.range' 1 (p - 1), 0 < x ∧ x < p := fun x hx => by
    have := List.mem_range'_1.mp hx; omega
  have nd : (List.range' 1 (p - 1)).Nodup := List.nodup_range'
  have pm : ((List.range' 1 (p - 1)).map fun x => a * x % p).Perm (List.range' 1 (p - 1)) := by
    refine perm_of_sub _ _ ?_ ?_ (by simp)
    · refine List.pairwise_map.mpr (List.Pairwise.imp_of_mem (fun {x y} hx hy q e => q (inj_mod h ha (hL x hx).2 (hL y hy).2 e)) nd)
    · intro y hy
      obtain ⟨x, hx, rfl⟩ := List.mem_map.mp hy
      have q := hL x hx
      have lt := Nat.mod_lt (a * x) (show 0 < p by omega)
      refine List.mem_range'_1.mpr ⟨Nat.pos_of_ne_zero fun z => ?_, by omega⟩
      rcases h.dvd_mul (Nat.dvd_of_mod_eq_zero z) with d | d
      · exact ha d
      · have := Nat.le_of_dvd q.1 d; omega
  have e := prod_mod a p (List.range' 1 (p - 1))
  rw [prodL_perm pm, List.length_range'] at e
  have nc := prod_cop h _ hL
  generalize prodL (List.range' 1 (p - 1)) = P at *
  have hpos : 0 < a := Nat.pos_of_ne_zero fun z => ha (z ▸ Nat.dvd_zero p)
  have h1 : 1 ≤ a ^ (p - 1) := Nat.pow_pos hpos
  have d := dvd_sub_of_mod (x := a ^ (p - 1) * P) (y := P) (by
    have := Nat.mul_le_mul_right P h1; omega) e.symm
  have e3 : a ^ (p - 1) * P - P = (a ^ (p - 1) - 1) * P := by rw [Nat.sub_mul, Nat.one_mul]
  rw [e3] at d
  rcases h.dvd_mul d with d | d
  · obtain ⟨k, hk⟩ := d
    have : a ^ (p - 1) = 1 + p * k := by omega
    rw [this, Nat.add_mul_mod_self_left, Nat.mod_eq_of_lt (by omega)]
  · exact absurd d nc
theorem pow_mod_one {b m : Nat} (hm : 1 < m) {i : Nat} (h : b ^ i % m = 1) (k : Nat) : b ^ (i * k) % m = 1 := by
  rw [Nat.pow_mul, Nat.pow_mod, h, Nat.one_pow, Nat.mod_eq_of_lt hm]
theorem pow_gcd {b m : Nat} (hm : 1 < m) (i j : Nat) : b ^ i % m = 1 → b ^ j % m = 1 → b ^ Nat.gcd i j % m = 1 := by
  induction i, j using Nat.gcd.induction with
  | H0 n => intro _ h; rwa [Nat.gcd_zero_left]
  | H1 i j hi ih =>
    intro h1 h2
    rw [Nat.gcd_rec]
    refine ih ?_ h1
    have e := Nat.div_add_mod j i
    rw [← e, Nat.pow_add, Nat.mul_mod, pow_mod_one hm h1, Nat.one_mul, Nat.mod_mod] at h2
    exact h2
/-- every prime factor of n is 1 above a multiple of q -/
theorem pock {n a q : Nat} (hq : IsP q) (hd : q ∣ n - 1) (h1 : a ^ (n - 1) % n = 1) (hg : Nat.gcd (a ^ ((n - 1) / q) % n - 1) n = 1) (h0 : 0 < a ^ ((n - 1) / q) % n) {p : Nat} (hp : IsP p) (hpn : p ∣ n) : q ∣ p - 1 := by
  have p2 := hp.1
  have hb : (a ^ ((n - 1) / q)) ^ q % p = 1 := by
    rw [← Nat.pow_mul, Nat.div_mul_cancel hd, ← Nat.mod_mod_of_dvd _ hpn, h1, Nat.mod_eq_of_lt (by omega)]
  have hnd : ¬ p ∣ a ^ ((n - 1) / q) := fun d => by
    have : p ∣ (a ^ ((n - 1) / q)) ^ q := by
      have hq0 : q = (q - 1) + 1 := by have := hq.1; omega
      generalize a ^ ((n - 1) / q) = b at *
      rw [hq0, Nat.pow_succ]
      exact Nat.dvd_trans d (Nat.dvd_mul_left ..)
    rw [Nat.mod_eq_zero_of_dvd this] at hb; cases hb
  have f := fermat hp hnd
  have g := pow_gcd (by omega) q (p - 1) hb f
  rcases hq.2 _ (Nat.gcd_dvd_left q (p - 1)) with e | e
  · rw [e, Nat.pow_one] at g
    have d : p ∣ a ^ ((n - 1) / q) % n - 1 := by
      refine dvd_sub_of_mod (by omega) ?_
      rw [Nat.mod_mod_of_dvd _ hpn, g, Nat.mod_eq_of_lt (by omega)]
    have := Nat.dvd_gcd d hpn
    rw [hg] at this
    have := Nat.le_of_dvd (by decide) this
    omega
  · exact e ▸ Nat.gcd_dvd_right q (p - 1)
theorem has_prime : ∀ (n : Nat), 2 ≤ n → ∃ p, IsP p ∧ p ∣ n := by
  intro n
  induction n using Nat.strongRecOn with
  | ind n ih =>
    intro h
    by_cases hp : IsP n
    · exact ⟨n, hp, Nat.dvd_refl n⟩
    · have : ∃ d, d ∣ n ∧ d ≠ 1 ∧ d ≠ n := by
        refine Classical.byContradiction fun c => hp ⟨h, fun d hd => ?_⟩
        refine Classical.byContradiction fun e => c ⟨d, hd, fun z => e (.inl z), fun z => e (.inr z)⟩
      obtain ⟨d, hd, h1, h2⟩ := this
      have hle := Nat.le_of_dvd (by omega) hd
      have h0 : d ≠ 0 := fun z => by subst z; have := Nat.eq_zero_of_zero_dvd hd; omega
      obtain ⟨p, p1, p2⟩ := ih d (by omega) (by omega)
      exact ⟨p, p1, Nat.dvd_trans p2 hd⟩
/-- no prime factor up to the root: a prime -/
theorem isP_of {n : Nat} (h2 : 2 ≤ n) (h : ∀ p, IsP p → p ∣ n → n < p * p) : IsP n := by
  refine ⟨h2, fun d hd => Classical.byContradiction fun c => ?_⟩
  have hle := Nat.le_of_dvd (by omega) hd
  have h0 : d ≠ 0 := fun z => by subst z; have := Nat.eq_zero_of_zero_dvd hd; omega
  have h1 : d ≠ 1 := fun z => c (.inl z)
  have h3 : d ≠ n := fun z => c (.inr z)
  obtain ⟨e, rfl⟩ := hd
  have e2 : 2 ≤ e := by
    rcases (by omega : e = 0 ∨ e = 1 ∨ 2 ≤ e) with rfl | rfl | q
    · omega
    · omega
    · exact q
  obtain ⟨p, p1, p2⟩ := has_prime d (by omega)
  obtain ⟨q, q1, q2⟩ := has_prime e e2
  have a1 := h p p1 (Nat.dvd_trans p2 (Nat.dvd_mul_right d e))
  have a2 := h q q1 (Nat.dvd_trans q2 (Nat.dvd_mul_left e d))
  have b1 := Nat.le_of_dvd (by omega) p2
  have b2 := Nat.le_of_dvd (by omega) q2
  have b3 := Nat.mul_le_mul b1 b2
  rcases Nat.le_total p q with z | z
  · have := Nat.mul_le_mul_left p z; omega
  · have := Nat.mul_le_mul_right q z; omega
/-- the power's residue, as the kernel works it out -/
def pwm (n : Nat) : Nat → Nat → Nat → Nat → Nat
  | 0, _, _, acc => acc
  | f + 1, b, e, acc => pwm n f (b * b % n) (e / 2) (if e % 2 = 1 then acc * b % n else acc)
theorem pwm_eq (n : Nat) : ∀ (f b e acc : Nat), e < 2 ^ f → pwm n f b e acc % n = acc * b ^ e % n := by
  intro f
  induction f with
  | zero => intro b e acc h; have : e = 0 := by simpa using h
            subst this; simp [pwm]
  | succ f ih =>
    intro b e acc h
    rw [pwm, ih _ _ _ (by rw [Nat.pow_succ] at h; omega)]
    have e2 : b ^ e = (b * b) ^ (e / 2) * b ^ (e % 2) := by
      rw [← Nat.pow_two, ← Nat.pow_mul, ← Nat.pow_add, Nat.div_add_mod]
    rw [e2, Nat.mul_mod, ← Nat.pow_mod, ← Nat.mul_mod]
    rcases (by omega : e % 2 = 0 ∨ e % 2 = 1) with z | z
    · rw [z, if_neg (by decide), Nat.pow_zero, Nat.mul_one]
    · rw [z, if_pos rfl, Nat.pow_one, Nat.mul_mod, Nat.mod_mod, ← Nat.mul_mod]
      congr 1; ac_rfl
theorem pwm_one {n f b e : Nat} (h : e < 2 ^ f) : pwm n f b e 1 % n = b ^ e % n := by rw [pwm_eq n f b e 1 h, Nat.one_mul]
/-- one prime q of n - 1, by numbers -/
def pkOk (n a q f : Nat) : Bool := decide (q ∣ n - 1) && decide (n - 1 < 2 ^ f) && decide (pwm n f a (n - 1) 1 % n = 1) && decide (Nat.gcd (pwm n f a ((n - 1) / q) 1 % n - 1) n = 1) && decide (0 < pwm n f a ((n - 1) / q) 1 % n)
theorem pk_of {n a q f : Nat} (hq : IsP q) (h : pkOk n a q f = true) {p : Nat} (hp : IsP p) (hpn : p ∣ n) : q ∣ p - 1 := by
  simp only [pkOk, Bool.and_eq_true, decide_eq_true_eq] at h
  obtain ⟨⟨⟨⟨h1, h2⟩, h3⟩, h4⟩, h5⟩ := h
  have h6 : (n - 1) / q < 2 ^ f := Nat.lt_of_le_of_lt (Nat.div_le_self ..) h2
  rw [pwm_one h2] at h3
  rw [pwm_one h6] at h4 h5
  exact pock hq h1 h3 h4 h5 hp hpn
theorem small_prime {n : Nat} (h2 : 2 ≤ n) (h : ∀ d, 2 ≤ d → d * d ≤ n → ¬ d ∣ n) : IsP n :=
  isP_of h2 fun p hp hd => Nat.lt_of_not_le fun z => h p hp.1 z hd
def noDiv (n : Nat) : Nat → Nat → Bool
  | 0, _ => true
  | f + 1, d => !decide (n % d = 0) && noDiv n f (d + 1)
theorem noDiv_ok (n : Nat) : ∀ (f d : Nat), noDiv n f d = true → ∀ k, d ≤ k → k < d + f → ¬ k ∣ n
  | 0, d, _, k, h1, h2 => by omega
  | f + 1, d, h, k, h1, h2 => by
    rw [noDiv, Bool.and_eq_true] at h
    obtain ⟨a, b⟩ := h
    by_cases e : k = d
    · subst e
      intro z
      rw [Nat.mod_eq_zero_of_dvd z] at a
      simp at a
    · exact noDiv_ok n f (d + 1) b k (by omega) (by omega)
theorem prime_by {n f : Nat} (h2 : 2 ≤ n) (hf : n < (f + 2) * (f + 2)) (h : noDiv n f 2 = true) : IsP n :=
  small_prime h2 fun d h3 h4 h5 => noDiv_ok n f 2 h d h3 (Nat.lt_of_not_le fun z => by
    have := Nat.mul_le_mul z z
    rw [Nat.add_comm] at hf
    omega) h5
theorem IsP.eq_of_dvd {p q : Nat} (hp : IsP p) (hq : IsP q) (h : p ∣ q) : p = q := by
  rcases hq.2 p h with e | e
  · have := hp.1; omega
  · exact e
theorem IsP.dvd_prod {p : Nat} (h : IsP p) : ∀ l : List Nat, (∀ x ∈ l, IsP x) → p ∣ prodL l → p ∈ l := by
  intro l
  induction l with
  | nil =>
    intro _ hd
    have hd : p ∣ 1 := hd
    have := Nat.le_of_dvd (by decide) hd
    have := h.1
    omega
  | cons x r ih =>
    intro hx hd
    rcases h.dvd_mul hd with q | q
    · rw [h.eq_of_dvd (hx x List.mem_cons_self) q]; exact List.mem_cons_self
    · exact List.mem_cons_of_mem _ (ih (fun y hy => hx y (List.mem_cons_of_mem _ hy)) q)
theorem prod_dvd : ∀ (l : List Nat) (m : Nat), l.Nodup → (∀ x ∈ l, IsP x) → (∀ x ∈ l, x ∣ m) → prodL l ∣ m := by
  intro l
  induction l with
  | nil => intro m _ _ _; exact Nat.one_dvd m
  | cons x r ih =>
    intro m hn hp hd
    obtain ⟨n1, n2⟩ := List.nodup_cons.mp hn
    have hx := hp x List.mem_cons_self
    have hr := fun y hy => hp y (List.mem_cons_of_mem x hy)
    have c := hx.cop (fun z => n1 (hx.dvd_prod r hr z))
    exact Nat.Coprime.mul_dvd_of_dvd_of_dvd c (hd x List.mem_cons_self) (ih m n2 hr fun y hy => hd y (List.mem_cons_of_mem _ hy))
theorem isP_pock {n f : Nat} (h2 : 2 ≤ n) (qs : List (Nat × Nat)) (hp : ∀ x ∈ qs, IsP x.1) (hk : (qs.all fun x => pkOk n x.2 x.1 f) = true) (hd : (qs.map (·.1)).Nodup) (hF : n < (prodL (qs.map (·.1)) + 1) * (prodL (qs.map (·.1)) + 1)) : IsP n := by
  refine isP_of h2 fun p p1 p2 => ?_
  have d := prod_dvd (qs.map (·.1)) (p - 1) hd (fun x hx => by
    obtain ⟨y, hy, rfl⟩ := List.mem_map.mp hx
    exact hp y hy) (fun x hx => by
    obtain ⟨y, hy, rfl⟩ := List.mem_map.mp hx
    exact pk_of (hp y hy) (List.all_eq_true.mp hk y hy) p1 p2)
  have := p1.1
  have le := Nat.le_of_dvd (by omega) d
  have := Nat.mul_le_mul (show prodL (qs.map (·.1)) + 1 ≤ p by omega) (show prodL (qs.map (·.1)) + 1 ≤ p by omega)
  omega
theorem p61 : IsP 1321 ∧ IsP 331 ∧ IsP 151 ∧ IsP 61 := ⟨prime_by (f := 40) (by decide) (by decide) (by decide +kernel), prime_by (f := 40) (by decide) (by decide) (by decide +kernel), prime_by (f := 40) (by decide) (by decide) (by decide +kernel), prime_by (f := 40) (by decide) (by decide) (by decide +kernel)⟩
theorem prime_m61 : IsP 2305843009213693951 := isP_pock (f := 61) (by decide) [(1321, 3), (331, 3), (151, 3), (61, 2)] (by simp only [List.forall_mem_cons]; exact ⟨p61.1, p61.2.1, p61.2.2.1, p61.2.2.2, by simp⟩) (by decide +kernel) (by decide +kernel) (by decide +kernel)
theorem prime_m31 : IsP 2147483647 := isP_pock (f := 31) (by decide) [(331, 3), (151, 3)] (by simp only [List.forall_mem_cons]; exact ⟨p61.2.1, p61.2.2.1, by simp⟩) (by decide +kernel) (by decide +kernel) (by decide +kernel)
theorem pr_8574133 : IsP 8574133 := prime_by (f := 2928) (by decide) (by decide) (by decide +kernel)
theorem pr_127 : IsP 127 := prime_by (f := 11) (by decide) (by decide) (by decide +kernel)
theorem pr_1919519569386763 : IsP 1919519569386763 := isP_pock (f := 51) (by decide) [(8574133, 2), (127, 2)] (by simp only [List.forall_mem_cons]; exact ⟨pr_8574133, pr_127, by simp⟩) (by decide +kernel) (by decide +kernel) (by decide +kernel)
theorem pr_569003 : IsP 569003 := prime_by (f := 754) (by decide) (by decide) (by decide +kernel)
theorem pr_2773320623 : IsP 2773320623 := isP_pock (f := 32) (by decide) [(569003, 2)] (by simp only [List.forall_mem_cons]; exact ⟨pr_569003, by simp⟩) (by decide +kernel) (by decide +kernel) (by decide +kernel)
theorem pr_72106336199 : IsP 72106336199 := isP_pock (f := 37) (by decide) [(2773320623, 2)] (by simp only [List.forall_mem_cons]; exact ⟨pr_2773320623, by simp⟩) (by decide +kernel) (by decide +kernel) (by decide +kernel)
theorem pr_75445702479781427272750846543864801 : IsP 75445702479781427272750846543864801 := isP_pock (f := 116) (by decide) [(1919519569386763, 2), (72106336199, 2)] (by simp only [List.forall_mem_cons]; exact ⟨pr_1919519569386763, pr_72106336199, by simp⟩) (by decide +kernel) (by decide +kernel) (by decide +kernel)
theorem pr_430751 : IsP 430751 := prime_by (f := 656) (by decide) (by decide) (by decide +kernel)
theorem pr_4153 : IsP 4153 := prime_by (f := 64) (by decide) (by decide) (by decide +kernel)
theorem pr_31757755568855353 : IsP 31757755568855353 := isP_pock (f := 55) (by decide) [(430751, 2), (4153, 2)] (by simp only [List.forall_mem_cons]; exact ⟨pr_430751, pr_4153, by simp⟩) (by decide +kernel) (by decide +kernel) (by decide +kernel)
theorem pr_74058212732561358302231226437062788676166966415465897661863160754340907 : IsP 74058212732561358302231226437062788676166966415465897661863160754340907 := isP_pock (f := 236) (by decide) [(75445702479781427272750846543864801, 2), (31757755568855353, 2)] (by simp only [List.forall_mem_cons]; exact ⟨pr_75445702479781427272750846543864801, pr_31757755568855353, by simp⟩) (by decide +kernel) (by decide +kernel) (by decide +kernel)
theorem pr_57896044618658097711785492504343953926634992332820282019728792003956564819949 : IsP 57896044618658097711785492504343953926634992332820282019728792003956564819949 := isP_pock (f := 255) (by decide) [(74058212732561358302231226437062788676166966415465897661863160754340907, 2)] (by simp only [List.forall_mem_cons]; exact ⟨pr_74058212732561358302231226437062788676166966415465897661863160754340907, by simp⟩) (by decide +kernel) (by decide +kernel) (by decide +kernel)
theorem pr_53 : IsP 53 := prime_by (f := 7) (by decide) (by decide) (by decide +kernel)
theorem pr_29 : IsP 29 := prime_by (f := 5) (by decide) (by decide) (by decide +kernel)
theorem pr_7 : IsP 7 := prime_by (f := 2) (by decide) (by decide) (by decide +kernel)
theorem pr_107590001 : IsP 107590001 := isP_pock (f := 27) (by decide) [(53, 2), (29, 2), (7, 2)] (by simp only [List.forall_mem_cons]; exact ⟨pr_53, pr_29, pr_7, by simp⟩) (by decide +kernel) (by decide +kernel) (by decide +kernel)
theorem pr_7240687 : IsP 7240687 := prime_by (f := 2690) (by decide) (by decide) (by decide +kernel)
theorem pr_96557 : IsP 96557 := prime_by (f := 310) (by decide) (by decide) (by decide +kernel)
theorem pr_255515944373312847190720520512484175977 : IsP 255515944373312847190720520512484175977 := isP_pock (f := 128) (by decide) [(107590001, 2), (7240687, 2), (96557, 2)] (by simp only [List.forall_mem_cons]; exact ⟨pr_107590001, pr_7240687, pr_96557, by simp⟩) (by decide +kernel) (by decide +kernel) (by decide +kernel)
theorem pr_205115282021455665897114700593932402728804164701536103180137503955397371 : IsP 205115282021455665897114700593932402728804164701536103180137503955397371 := isP_pock (f := 237) (by decide) [(255515944373312847190720520512484175977, 2)] (by simp only [List.forall_mem_cons]; exact ⟨pr_255515944373312847190720520512484175977, by simp⟩) (by decide +kernel) (by decide +kernel) (by decide +kernel)
theorem pr_115792089237316195423570985008687907853269984665640564039457584007908834671663 : IsP 115792089237316195423570985008687907853269984665640564039457584007908834671663 := isP_pock (f := 256) (by decide) [(205115282021455665897114700593932402728804164701536103180137503955397371, 2)] (by simp only [List.forall_mem_cons]; exact ⟨pr_205115282021455665897114700593932402728804164701536103180137503955397371, by simp⟩) (by decide +kernel) (by decide +kernel) (by decide +kernel)
theorem pr_704251 : IsP 704251 := prime_by (f := 839) (by decide) (by decide) (by decide +kernel)
theorem pr_78283 : IsP 78283 := prime_by (f := 279) (by decide) (by decide) (by decide +kernel)
theorem pr_46076956964474543 : IsP 46076956964474543 := isP_pock (f := 56) (by decide) [(704251, 2), (78283, 2)] (by simp only [List.forall_mem_cons]; exact ⟨pr_704251, pr_78283, by simp⟩) (by decide +kernel) (by decide +kernel) (by decide +kernel)
theorem pr_3677 : IsP 3677 := prime_by (f := 60) (by decide) (by decide) (by decide +kernel)
theorem pr_197 : IsP 197 := prime_by (f := 14) (by decide) (by decide) (by decide +kernel)
theorem pr_66417393611 : IsP 66417393611 := isP_pock (f := 36) (by decide) [(3677, 2), (197, 2)] (by simp only [List.forall_mem_cons]; exact ⟨pr_3677, pr_197, by simp⟩) (by decide +kernel) (by decide +kernel) (by decide +kernel)
theorem pr_11290956913871 : IsP 11290956913871 := isP_pock (f := 44) (by decide) [(66417393611, 2)] (by simp only [List.forall_mem_cons]; exact ⟨pr_66417393611, by simp⟩) (by decide +kernel) (by decide +kernel) (by decide +kernel)
theorem pr_774023187263532362759620327192479577272145303 : IsP 774023187263532362759620327192479577272145303 := isP_pock (f := 150) (by decide) [(46076956964474543, 2), (11290956913871, 2)] (by simp only [List.forall_mem_cons]; exact ⟨pr_46076956964474543, pr_11290956913871, by simp⟩) (by decide +kernel) (by decide +kernel) (by decide +kernel)
theorem pr_835945042244614951780389953367877943453916927241 : IsP 835945042244614951780389953367877943453916927241 := isP_pock (f := 160) (by decide) [(774023187263532362759620327192479577272145303, 2)] (by simp only [List.forall_mem_cons]; exact ⟨pr_774023187263532362759620327192479577272145303, by simp⟩) (by decide +kernel) (by decide +kernel) (by decide +kernel)
theorem pr_115792089210356248762697446949407573530086143415290314195533631308867097853951 : IsP 115792089210356248762697446949407573530086143415290314195533631308867097853951 := isP_pock (f := 256) (by decide) [(835945042244614951780389953367877943453916927241, 2)] (by simp only [List.forall_mem_cons]; exact ⟨pr_835945042244614951780389953367877943453916927241, by simp⟩) (by decide +kernel) (by decide +kernel) (by decide +kernel)
end Mi
set_option maxHeartbeats 1000000
namespace Mi
/-! ### residues -/
theorem em_mul {p x y u v : Int} (h : x % p = u % p) (h2 : y % p = v % p) : x * y % p = u * v % p := by rw [Int.mul_emod, h, h2, ← Int.mul_emod]
theorem em_pow {p x u : Int} (h : x % p = u % p) : ∀ k : Nat, x ^ k % p = u ^ k % p
  | 0 => by rw [Int.pow_zero, Int.pow_zero]
  | k + 1 => by rw [Int.pow_succ, Int.pow_succ]; exact em_mul (em_pow h k) h
theorem em_em (x p : Int) : x % p % p = x % p := Int.emod_emod_of_dvd x (Int.dvd_refl p)
theorem em_dvd {p x y : Int} (h : x % p = y % p) : p ∣ x - y := Int.dvd_of_emod_eq_zero (Int.emod_eq_emod_iff_emod_sub_eq_zero.mp h)
theorem em_of_dvd {p x y : Int} (h : p ∣ x - y) : x % p = y % p := Int.emod_eq_emod_iff_emod_sub_eq_zero.mpr (Int.emod_eq_zero_of_dvd h)
theorem IsP.dvd_mulI {p : Nat} (h : IsP p) {a b : Int} (hd : (p : Int) ∣ a * b) : (p : Int) ∣ a ∨ (p : Int) ∣ b := by
  have := Int.natAbs_dvd_natAbs.mpr hd
  rw [Int.natAbs_mul, Int.natAbs_natCast] at this
  rcases h.dvd_mul this with q | q
  · exact .inl (Int.natAbs_dvd_natAbs.mp (by rw [Int.natAbs_natCast]; exact q))
  · exact .inr (Int.natAbs_dvd_natAbs.mp (by rw [Int.natAbs_natCast]; exact q))
theorem IsP.dvd_powI {p : Nat} (h : IsP p) {a : Int} : ∀ k : Nat, (p : Int) ∣ a ^ k → (p : Int) ∣ a
  | 0, hd => by
    rw [Int.pow_zero] at hd
    have := Int.le_of_dvd (by decide) hd
    have := h.1
    omega
  | k + 1, hd => by
    rw [Int.pow_succ] at hd
    rcases h.dvd_mulI hd with q | q
    · exact h.dvd_powI k q
    · exact q
theorem fermatI {p : Nat} (h : IsP p) {a : Int} (ha : ¬ (p : Int) ∣ a) : a ^ (p - 1) % p = 1 := by
  have h2 := h.1
  have e0 := Int.emod_nonneg a (show (p : Int) ≠ 0 by omega)
  obtain ⟨x, hx⟩ := Int.eq_ofNat_of_zero_le e0
  have hn : ¬ p ∣ x := fun d => by
    obtain ⟨k, rfl⟩ := d
    refine ha (Int.dvd_of_emod_eq_zero ?_)
    rw [← em_em a p, hx]
    exact Int.emod_eq_zero_of_dvd ⟨k, by show ((p * k : Nat) : Int) = _; rw [Int.natCast_mul]⟩
  have f := fermat h hn
  rw [em_pow (u := (x : Int)) (by rw [← hx, em_em])]
  rw [← Int.natCast_pow, ← Int.natCast_emod, f]; rfl
theorem sq_one {p : Nat} (h : IsP p) {x : Int} (hx : x * x % p = 1) : x % p = 1 ∨ x % p = p - 1 := by
  have h2 := h.1
  have o : (1 : Int) % p = 1 := Int.emod_eq_of_lt (by decide) (by omega)
  have d := em_dvd (p := p) (x := x * x) (y := 1) (by rw [hx, o])
  rw [show x * x - 1 = (x - 1) * (x - -1) by grind] at d
  rcases h.dvd_mulI d with q | q
  · left; rw [em_of_dvd q, o]
  · right
    rw [em_of_dvd q]
    have : (-1 : Int) = (p - 1 : Int) + p * (-1) := by omega
    rw [this, Int.add_mul_emod_self_left, Int.emod_eq_of_lt (by omega) (by omega)]
theorem m1_sq {p : Nat} (h : IsP p) {x : Int} (hx : x % p = p - 1) : x * x % p = 1 := by
  have h2 := h.1
  have o : (1 : Int) % p = 1 := Int.emod_eq_of_lt (by decide) (by omega)
  have hp : ((p : Int) - 1) % p = p - 1 := Int.emod_eq_of_lt (by omega) (by omega)
  rw [em_mul (hx.trans hp.symm) (hx.trans hp.symm), show ((p : Int) - 1) * (p - 1) = 1 + p * (p - 2) by grind, Int.add_mul_emod_self_left, o]
/-! ### a polynomial's roots -/
def evp : List Int → Int → Int
  | [], _ => 0
  | c :: cs, x => c + x * evp cs x
def dvp : List Int → Int → List Int
  | [], _ => []
  | [_], _ => []
  | _ :: d :: cs, r => evp (d :: cs) r :: dvp (d :: cs) r
theorem evp_dvp : ∀ (cs : List Int) (x r : Int), evp cs x - evp cs r = (x - r) * evp (dvp cs r) x
  | [], x, r => by simp [evp, dvp]
  | [c], x, r => by simp [evp, dvp]
  | c :: d :: cs, x, r => by
    have ih := evp_dvp (d :: cs) x r
    show c + x * evp (d :: cs) x - (c + r * evp (d :: cs) r) = (x - r) * (evp (d :: cs) r + x * evp (dvp (d :: cs) r) x)
    generalize evp (d :: cs) x = u at *
    generalize evp (d :: cs) r = v at *
    generalize evp (dvp (d :: cs) r) x = w at *
    have : u = v + (x - r) * w := by omega
    subst this
    grind
theorem dvp_len : ∀ (cs : List Int) (r : Int), (dvp cs r).length = cs.length - 1
  | [], r => rfl
  | [c], r => rfl
  | c :: d :: cs, r => by
    have ih := dvp_len (d :: cs) r
    simp only [dvp, List.length_cons] at *; omega
theorem dvp_top : ∀ (cs : List Int) (r : Int), 2 ≤ cs.length → cs.getLast? = some 1 → (dvp cs r).getLast? = some 1
  | [], r, h, _ => by simp at h
  | [c], r, h, _ => by simp at h
  | [c, d], r, _, h => by
    have : d = 1 := by simpa using h
    subst this
    simp [dvp, evp]
  | c :: d :: e :: cs, r, _, h => by
    have ih := dvp_top (d :: e :: cs) r (by simp) (by simpa using h)
    rw [dvp]
    have hn : dvp (d :: e :: cs) r ≠ [] := by simp [dvp]
    cases hq : dvp (d :: e :: cs) r with
    | nil => exact absurd hq hn
    | cons y ys => rw [hq] at ih; rw [List.getLast?_cons_cons]; exact ih
theorem roots_le {p : Nat} (h : IsP p) : ∀ (n : Nat) (cs : List Int), cs.length = n + 1 → cs.getLast? = some 1 → ∀ rs : List Int, rs.Pairwise (fun x y => ¬ (p : Int) ∣ y - x) → (∀ r ∈ rs, (p : Int) ∣ evp cs r) → rs.length ≤ n := by
  intro n
  induction n with
  | zero =>
    intro cs hl ht rs hp hr
    cases rs with
    | nil => exact Nat.le_refl 0
    | cons r rs =>
      match cs, hl with
      | [c], _ =>
        have : c = 1 := by simpa using ht
        subst this
        have d := hr r List.mem_cons_self
        have e : evp [1] r = 1 := by simp [evp]
        rw [e] at d
        have := Int.le_of_dvd (by decide) d
        have := h.1
        omega
  | succ n ih =>
    intro cs hl ht rs hp hr
    cases rs with
    | nil => exact Nat.zero_le _
    | cons r rs =>
      obtain ⟨h1, h2⟩ := List.pairwise_cons.mp hp
      have q := ih (dvp cs r) (by rw [dvp_len]; omega) (dvp_top cs r (by omega) ht) rs h2 fun s hs => by
        have d : (p : Int) ∣ evp cs s - evp cs r := Int.dvd_sub (hr s (List.mem_cons_of_mem _ hs)) (hr r List.mem_cons_self)
        rw [evp_dvp] at d
        exact (h.dvd_mulI d).resolve_left (h1 s hs)
      rw [List.length_cons]; omega
theorem evp_pow : ∀ (k : Nat) (x : Int), evp (List.replicate k 0 ++ [1]) x = x ^ k
  | 0, x => by simp [evp]
  | k + 1, x => by
    rw [List.replicate_succ, List.cons_append, evp, evp_pow k x, Int.pow_succ]; grind
/-- a number whose power is not 1 -/
theorem non_root {p : Nat} (h : IsP p) {k : Nat} (k0 : 0 < k) (hk : k < p - 1) : ∃ z : Nat, 1 ≤ z ∧ z < p ∧ (z : Int) ^ k % p ≠ 1 := by
  refine Classical.byContradiction fun c => ?_
  have all : ∀ z : Nat, 1 ≤ z → z < p → (z : Int) ^ k % p = 1 := fun z h1 h2 => Classical.byContradiction fun e => c ⟨z, h1, h2, e⟩
  have q := roots_le h k (-1 :: (List.replicate (k - 1) 0 ++ [1])) (by simp; omega) (by
    cases hq : (List.replicate (k - 1) 0 ++ [(1 : Int)]) with
    | nil => simp at hq
    | cons y ys => rw [List.getLast?_cons_cons, ← hq]; simp) ((List.range' 1 (p - 1)).map fun (z : Nat) => (z : Int)) (by
      refine List.pairwise_map.mpr (List.Pairwise.imp_of_mem (fun {x y} hx hy q d => ?_) (List.nodup_range' (s := 1) (n := p - 1)))
      have hx := List.mem_range'_1.mp hx
      have hy := List.mem_range'_1.mp hy
      have := Int.eq_zero_of_dvd_of_natAbs_lt_natAbs d (by omega)
      exact q (by omega)) (fun r hr => by
      obtain ⟨z, hz, rfl⟩ := List.mem_map.mp hr
      have hz := List.mem_range'_1.mp hz
      have e := all z hz.1 (by omega)
      have o : (1 : Int) % p = 1 := Int.emod_eq_of_lt (by decide) (by have := h.1; omega)
      have d := em_dvd (p := p) (x := (z : Int) ^ k) (y := 1) (by rw [e, o])
      show (p : Int) ∣ -1 + (z : Int) * evp (List.replicate (k - 1) 0 ++ [1]) z
      rw [evp_pow]
      have ek : (z : Int) * (z : Int) ^ (k - 1) = (z : Int) ^ k := by
        rw [Int.mul_comm, ← Int.pow_succ]; congr 1; omega
      rw [ek, show (-1 : Int) + (z : Int) ^ k = (z : Int) ^ k - 1 by omega]
      exact d)
  rw [List.length_map, List.length_range'] at q
  omega
/-- half the exponent: 1 or -1 -/
theorem half_pow {p : Nat} (h : IsP p) (ho : p % 2 = 1) {a : Int} (ha : ¬ (p : Int) ∣ a) : a ^ ((p - 1) / 2) % p = 1 ∨ a ^ ((p - 1) / 2) % p = p - 1 := by
  refine sq_one h ?_
  rw [← Int.pow_add, show (p - 1) / 2 + (p - 1) / 2 = p - 1 by omega]
  exact fermatI h ha
/-! ### the twos of a number -/
theorem low_and (o t : Nat) : (((2 * o + 1) * 2 ^ t) &&& ((2 * o + 1) * 2 ^ t - 1)) = 2 * o * 2 ^ t := by
  induction t with
  | zero =>
    rw [Nat.pow_zero, Nat.mul_one, Nat.mul_one, Nat.add_sub_cancel]
    have e1 := @Nat.and_div_two (2 * o + 1) (2 * o)
    have e2 := @Nat.and_mod_two_eq_one (2 * o + 1) (2 * o)
    rw [show (2 * o + 1) / 2 = o by omega, show 2 * o / 2 = o by omega, Nat.and_self] at e1
    omega
  | succ t ih =>
    have hp := Nat.two_pow_pos t
    have hm : 0 < (2 * o + 1) * 2 ^ t := Nat.mul_pos (by omega) hp
    have ep : (2 * o + 1) * 2 ^ (t + 1) = 2 * ((2 * o + 1) * 2 ^ t) := by rw [Nat.pow_succ]; ac_rfl
    have eq : 2 * o * 2 ^ (t + 1) = 2 * (2 * o * 2 ^ t) := by rw [Nat.pow_succ]; ac_rfl
    rw [ep, eq]
    generalize (2 * o + 1) * 2 ^ t = m at *
    have e1 := @Nat.and_div_two (2 * m) (2 * m - 1)
    have e2 := @Nat.and_mod_two_eq_one (2 * m) (2 * m - 1)
    rw [show 2 * m / 2 = m by omega, show (2 * m - 1) / 2 = m - 1 by omega, ih] at e1
    omega
theorem odd_part : ∀ n : Nat, 0 < n → ∃ o t, n = (2 * o + 1) * 2 ^ t := by
  intro n
  induction n using Nat.strongRecOn with
  | ind n ih =>
    intro h
    by_cases e : n % 2 = 1
    · exact ⟨n / 2, 0, by rw [Nat.pow_zero]; omega⟩
    · obtain ⟨o, t, q⟩ := ih (n / 2) (by omega) (by omega)
      exact ⟨o, t + 1, by rw [Nat.pow_succ, ← Nat.mul_assoc, ← q]; omega⟩
end Mi
set_option maxHeartbeats 1000000
namespace Mi
/-! ### residues as a ring -/
def zr (p : Nat) (x y : Int) : Prop := x % p = y % p
def Zp (p : Nat) : Type := Quot (zr p)
def zm (p : Nat) (x : Int) : Zp p := Quot.mk _ x
theorem zr_iff {p : Nat} {x y : Int} : zr p x y ↔ (p : Int) ∣ x - y := ⟨fun h => em_dvd h, fun h => em_of_dvd h⟩
section
variable {p : Nat}
def zadd : Zp p → Zp p → Zp p := Quot.lift (fun x => Quot.lift (fun y => zm p (x + y)) fun a b h => Quot.sound (by
  rw [zr_iff] at h ⊢; rw [show x + a - (x + b) = a - b by omega]; exact h)) fun a b h => by
  funext y
  induction y using Quot.ind
  refine Quot.sound ?_
  rw [zr_iff] at h ⊢
  rename_i y
  rw [show a + y - (b + y) = a - b by omega]; exact h
def zmul : Zp p → Zp p → Zp p := Quot.lift (fun x => Quot.lift (fun y => zm p (x * y)) fun a b h => Quot.sound (em_mul rfl h)) fun a b h => by
  funext y
  induction y using Quot.ind
  exact Quot.sound (em_mul h rfl)
def zneg : Zp p → Zp p := Quot.lift (fun x => zm p (-x)) fun a b h => Quot.sound (by
  rw [zr_iff] at h ⊢
  rw [show -a - -b = -(a - b) by omega]; exact Int.dvd_neg.mpr h)
instance : Add (Zp p) := ⟨zadd⟩
instance : Mul (Zp p) := ⟨zmul⟩
instance : Neg (Zp p) := ⟨zneg⟩
instance : Sub (Zp p) := ⟨fun x y => x + -y⟩
instance : NatCast (Zp p) := ⟨fun n => zm p (n : Int)⟩
instance : IntCast (Zp p) := ⟨fun n => zm p n⟩
instance (n : Nat) : OfNat (Zp p) n := ⟨zm p (n : Int)⟩
def zpow (x : Zp p) : Nat → Zp p
  | 0 => 1
  | n + 1 => zpow x n * x
instance : HPow (Zp p) Nat (Zp p) := ⟨zpow⟩
instance : SMul Nat (Zp p) := ⟨fun n x => (n : Zp p) * x⟩
instance : SMul Int (Zp p) := ⟨fun n x => (n : Zp p) * x⟩
theorem zm_add (x y : Int) : zm p (x + y) = zm p x + zm p y := rfl
theorem zm_mul (x y : Int) : zm p (x * y) = zm p x * zm p y := rfl
theorem zm_neg (x : Int) : zm p (-x) = -zm p x := rfl
theorem zm_sub (x y : Int) : zm p (x - y) = zm p x - zm p y := by
  rw [Int.sub_eq_add_neg]; rfl
theorem zm_eq {x y : Int} : zm p x = zm p y ↔ x % p = y % p := by
  refine ⟨fun h => ?_, fun h => Quot.sound h⟩
  have : ∀ z : Zp p, zm p x = z → Quot.lift (fun y => x % p = y % p) (fun a b h => by simp only [show a % (p : Int) = b % p from h]) z := by
    intro z e; subst e; rfl
  exact this _ h
theorem zm_num (n : Nat) : zm p (OfNat.ofNat n : Int) = (OfNat.ofNat n : Zp p) := rfl
theorem zm_nat (n : Nat) : zm p (n : Int) = (OfNat.ofNat n : Zp p) := rfl
theorem zm_mod (x : Int) : zm p (x % p) = zm p x := zm_eq.mpr (em_em _ _)
instance : Lean.Grind.CommRing (Zp p) where
  add_zero := fun a => Quot.inductionOn a (fun x => congrArg (zm p) (Int.add_zero x))
  add_comm := fun a b => Quot.inductionOn a (fun x => Quot.inductionOn b (fun y => congrArg (zm p) (Int.add_comm x y)))
  add_assoc := fun a b c => Quot.inductionOn a (fun x => Quot.inductionOn b (fun y => Quot.inductionOn c (fun z => congrArg (zm p) (Int.add_assoc x y z))))
  mul_assoc := fun a b c => Quot.inductionOn a (fun x => Quot.inductionOn b (fun y => Quot.inductionOn c (fun z => congrArg (zm p) (Int.mul_assoc x y z))))
  mul_one := fun a => Quot.inductionOn a (fun x => congrArg (zm p) (Int.mul_one x))
  one_mul := fun a => Quot.inductionOn a (fun x => congrArg (zm p) (Int.one_mul x))
  left_distrib := fun a b c => Quot.inductionOn a (fun x => Quot.inductionOn b (fun y => Quot.inductionOn c (fun z => congrArg (zm p) (Int.mul_add x y z))))
  right_distrib := fun a b c => Quot.inductionOn a (fun x => Quot.inductionOn b (fun y => Quot.inductionOn c (fun z => congrArg (zm p) (Int.add_mul x y z))))
  zero_mul := fun a => Quot.inductionOn a (fun x => congrArg (zm p) (Int.zero_mul x))
  mul_zero := fun a => Quot.inductionOn a (fun x => congrArg (zm p) (Int.mul_zero x))
  pow_zero := fun a => rfl
  pow_succ := fun a n => rfl
  ofNat_succ := fun n => rfl
  ofNat_eq_natCast := fun n => rfl
  nsmul_eq_natCast_mul := fun n a => rfl
  neg_add_cancel := fun a => Quot.inductionOn a (fun x => congrArg (zm p) (Int.add_left_neg x))
  sub_eq_add_neg := fun a b => rfl
  neg_zsmul := fun i a => Quot.inductionOn a (fun x => congrArg (zm p) (Int.neg_mul i x))
  zsmul_natCast_eq_nsmul := fun n a => rfl
  intCast_ofNat := fun n => rfl
  intCast_neg := fun i => rfl
  mul_comm := fun a b => Quot.inductionOn a (fun x => Quot.inductionOn b (fun y => congrArg (zm p) (Int.mul_comm x y)))
theorem zm_zero {x : Int} : zm p x = 0 ↔ x % p = 0 := by
  have : zm p x = zm p 0 ↔ _ := zm_eq
  rw [Int.zero_emod] at this
  exact this
theorem zm_pow (x : Int) : ∀ n : Nat, zm p (x ^ n) = zm p x ^ n
  | 0 => by rw [Int.pow_zero]; rfl
  | n + 1 => by
    rw [Int.pow_succ, zm_mul, zm_pow x n]; rfl
theorem zm_dvd {x : Int} : zm p x = 0 ↔ (p : Int) ∣ x := zm_zero.trans ⟨Int.dvd_of_emod_eq_zero, Int.emod_eq_zero_of_dvd⟩
theorem z_dom (h : IsP p) {x y : Zp p} (e : x * y = 0) : x = 0 ∨ y = 0 := by
  revert e
  refine Quot.inductionOn x (fun x => ?_)
  refine Quot.inductionOn y (fun y => ?_)
  intro e
  rcases h.dvd_mulI (zm_dvd.mp e) with q | q
  · exact .inl (zm_dvd.mpr q)
  · exact .inr (zm_dvd.mpr q)
theorem z_cancel (h : IsP p) {x y : Zp p} (hx : x ≠ 0) (e : x * y = 0) : y = 0 := (z_dom h e).resolve_left hx
theorem z_mul_ne (h : IsP p) {x y : Zp p} (hx : x ≠ 0) (hy : y ≠ 0) : x * y ≠ 0 := fun e => hy (z_cancel h hx e)
theorem z_inv0 (h : IsP p) (x : Int) (hx : zm p x ≠ 0) : zm p x ^ (p - 2) * zm p x = 1 := by
  have h2 := h.1
  have f := fermatI h (a := x) fun d => hx (zm_dvd.mpr d)
  rw [← zm_pow, ← zm_mul, ← Int.pow_succ, show (p - 2).succ = p - 1 by omega]
  exact (show zm p (x ^ (p - 1)) = zm p 1 from zm_eq.mpr (by rw [f, Int.emod_eq_of_lt (by decide) (by omega)]))
theorem z_inv (h : IsP p) {x : Zp p} : x ≠ 0 → x ^ (p - 2) * x = 1 := Quot.inductionOn x fun x hx => z_inv0 h x hx
theorem z_ne_num (n : Nat) (h0 : 0 < n) (h1 : n < p) : (OfNat.ofNat n : Zp p) ≠ 0 := by
  intro e
  have := zm_zero.mp (show zm p (n : Int) = 0 from e)
  rw [Int.emod_eq_of_lt (by omega) (by omega)] at this
  omega
/-- residues are equal if their classes are -/
theorem res_eq {x y : Int} (hx0 : 0 ≤ x) (hx1 : x < p) (hy0 : 0 ≤ y) (hy1 : y < p) (h : zm p x = zm p y) : x = y := by
  have := zm_eq.mp h
  rwa [Int.emod_eq_of_lt hx0 hx1, Int.emod_eq_of_lt hy0 hy1] at this
end
theorem z_test {p : Nat} (x y : Zp p) (h : x * x = y) : (x + 1) ^ 2 - 2 * x - 1 = y := by grind
end Mi
namespace Mi
theorem z_clos {p : Nat} (x1 y1 x2 y2 a b l i : Zp p) (h1 : y1*y1 = x1*x1*x1 + a*x1 + b) (h2 : y2*y2 = x2*x2*x2 + a*x2 + b) (hi : i*(x2-x1) = 1) (hl : l*(x2-x1) = (y2-y1))  : (l*(x1-(l*l - x1 - x2)) - y1)*(l*(x1-(l*l - x1 - x2)) - y1) = (l*l - x1 - x2)*(l*l - x1 - x2)*(l*l - x1 - x2) + a*(l*l - x1 - x2) + b := by
  have q : x1*x1 + x1*x2 + x2*x2 + a = l*(y1+y2) := by
    have : (x2-x1)*(x1*x1 + x1*x2 + x2*x2 + a - l*(y1+y2)) = 0 := by grind
    grind
  have e : y2 = y1 + l*(x2-x1) := by grind
  subst e
  grind
end Mi
set_option maxHeartbeats 1000000
namespace Mi
open PySem PySem.Spec L2
/-! ### sizes, found by themselves -/
class Bd (x : Int) (n : outParam Nat) : Prop where
  lt : x.natAbs < 2 ^ n
class Pb (p : Nat) : Prop where
  pos : 0 < p
  lt : p < 2 ^ 256
theorem Bd.up {x : Int} {m n : Nat} (h : x.natAbs < 2 ^ m) (e : m ≤ n) : x.natAbs < 2 ^ n := Nat.lt_of_lt_of_le h (Nat.pow_le_pow_right (by decide) e)
instance bd_mul {x y : Int} {a b : Nat} [h1 : Bd x a] [h2 : Bd y b] : Bd (x * y) (a + b) := ⟨by rw [Int.natAbs_mul]; exact pow_add_lt h1.lt h2.lt⟩
theorem two_sum {u v a b : Nat} (h1 : u < 2 ^ a) (h2 : v < 2 ^ b) : u + v < 2 ^ (max a b + 1) := by
  have := Nat.lt_of_lt_of_le h1 (Nat.pow_le_pow_right (show 0 < 2 by decide) (Nat.le_max_left a b))
  have := Nat.lt_of_lt_of_le h2 (Nat.pow_le_pow_right (show 0 < 2 by decide) (Nat.le_max_right a b))
  rw [Nat.pow_succ]; omega
instance bd_add {x y : Int} {a b : Nat} [h1 : Bd x a] [h2 : Bd y b] : Bd (x + y) (max a b + 1) := ⟨Nat.lt_of_le_of_lt (Int.natAbs_add_le x y) (two_sum h1.lt h2.lt)⟩
instance bd_sub {x y : Int} {a b : Nat} [h1 : Bd x a] [h2 : Bd y b] : Bd (x - y) (max a b + 1) := ⟨Nat.lt_of_le_of_lt (Int.natAbs_sub_le x y) (two_sum h1.lt h2.lt)⟩
instance bd_neg {x : Int} {a : Nat} [h1 : Bd x a] : Bd (-x) a := ⟨by rw [Int.natAbs_neg]; exact h1.lt⟩
instance bd_pow {x : Int} {a k : Nat} [h1 : Bd x a] : Bd (x ^ k) (a * k + 1) := ⟨by
  rw [Int.natAbs_pow]
  have : x.natAbs ^ k ≤ (2 ^ a) ^ k := Nat.pow_le_pow_left (Nat.le_of_lt h1.lt) k
  rw [← Nat.pow_mul] at this
  have : 2 ^ (a * k) < 2 ^ (a * k + 1) := Nat.pow_lt_pow_right (by decide) (by omega)
  omega⟩
instance : Bd (0 : Int) 8 := ⟨by decide⟩
instance : Bd (1 : Int) 8 := ⟨by decide⟩
instance : Bd (2 : Int) 8 := ⟨by decide⟩
instance : Bd (3 : Int) 8 := ⟨by decide⟩
instance : Bd (4 : Int) 8 := ⟨by decide⟩
instance : Bd (5 : Int) 8 := ⟨by decide⟩
instance : Bd (6 : Int) 8 := ⟨by decide⟩
instance : Bd (7 : Int) 8 := ⟨by decide⟩
instance : Bd (8 : Int) 8 := ⟨by decide⟩
instance : Bd (9 : Int) 8 := ⟨by decide⟩
instance : Bd (12 : Int) 8 := ⟨by decide⟩
instance : Bd (13 : Int) 8 := ⟨by decide⟩
instance : Bd (16 : Int) 8 := ⟨by decide⟩
instance : Bd (27 : Int) 8 := ⟨by decide⟩
instance : Bd (2147483648 : Int) 70 := ⟨by decide +kernel⟩
instance : Bd (4294967296 : Int) 70 := ⟨by decide +kernel⟩
instance : Bd (2305843009213693952 : Int) 70 := ⟨by decide +kernel⟩
instance : Bd (9223372036854775808 : Int) 70 := ⟨by decide +kernel⟩
instance : Bd (18446744073709551616 : Int) 70 := ⟨by decide +kernel⟩
instance : Bd (6277101735386680763835789423207666416102355444464034512896 : Int) 200 := ⟨by decide +kernel⟩
instance bd_p {p : Nat} [h : Pb p] : Bd (p : Int) 256 := ⟨by rw [Int.natAbs_natCast]; exact h.lt⟩
instance bd_mod {p : Nat} {x : Int} [h : Pb p] : Bd (x % (p : Int)) 256 := ⟨by
  have := h.pos; have := h.lt
  have := Int.emod_nonneg x (show (p : Int) ≠ 0 by omega)
  have := Int.emod_lt_of_pos x (show (0 : Int) < (p : Int) by omega)
  omega⟩
theorem need_bd {α : Type} {x y : Int} {a b : Nat} {m : Res α} [h1 : Bd x a] [h2 : Bd y b] (h : (decide (a + b ≤ 134217728)) = true) : Res.need (CMulX x y) m = m := Res.need_pos (cmulx h1.lt h2.lt (of_decide_eq_true h))
theorem need_pw2 {α : Type} {x : Int} {a : Nat} {m : Res α} [h1 : Bd x a] (h : (decide (a * 2 ≤ 134217728)) = true) : Res.need (CPowX x 2) m = m := Res.need_pos ⟨by decide, by
  have := le_ibits h1.lt
  have h := of_decide_eq_true h
  show ((Builtin.Int.intBits x : Nat) : Int) * 2 ≤ 134217728
  omega⟩
theorem need_pw3 {α : Type} {x : Int} {a : Nat} {m : Res α} [h1 : Bd x a] (h : (decide (a * 3 ≤ 134217728)) = true) : Res.need (CPowX x 3) m = m := Res.need_pos ⟨by decide, by
  have := le_ibits h1.lt
  have h := of_decide_eq_true h
  show ((Builtin.Int.intBits x : Nat) : Int) * 3 ≤ 134217728
  omega⟩
theorem need_pw4 {α : Type} {x : Int} {a : Nat} {m : Res α} [h1 : Bd x a] (h : (decide (a * 4 ≤ 134217728)) = true) : Res.need (CPowX x 4) m = m := Res.need_pos ⟨by decide, by
  have := le_ibits h1.lt
  have h := of_decide_eq_true h
  show ((Builtin.Int.intBits x : Nat) : Int) * 4 ≤ 134217728
  omega⟩
theorem need_pw6 {α : Type} {x : Int} {a : Nat} {m : Res α} [h1 : Bd x a] (h : (decide (a * 6 ≤ 134217728)) = true) : Res.need (CPowX x 6) m = m := Res.need_pos ⟨by decide, by
  have := le_ibits h1.lt
  have h := of_decide_eq_true h
  show ((Builtin.Int.intBits x : Nat) : Int) * 6 ≤ 134217728
  omega⟩
theorem need_p {α : Type} {p : Nat} {m : Res α} [h : Pb p] : Res.need (0 < (p : Int)) m = m := Res.need_pos (by have := h.pos; omega)
theorem need_true {α : Type} {m : Res α} : Res.need True m = m := Res.need_pos trivial
theorem tn2 : (2 : Int).toNat = 2 := rfl
theorem tn3 : (3 : Int).toNat = 3 := rfl
theorem tn4 : (4 : Int).toNat = 4 := rfl
theorem tn6 : (6 : Int).toNat = 6 := rfl
theorem bd_test {α : Type} {p : Nat} [Pb p] (x y : Int) [Bd x 256] [Bd y 256] (m : Res α) : Res.need (CMulX (x * y - 27 * x ^ 3) (y + (x * x * x) % (p : Int))) (Res.need (0 < (p : Int)) (Res.need (CPowX (x * y) 3) m)) = m := by
  simp (decide := true) only [need_bd, need_p, need_pw3]
end Mi
set_option maxHeartbeats 1000000
namespace Mi
/-! ### residues of a prime as a field -/
class Prm (p : Nat) : Prop where
  pr : IsP p
section
variable {p : Nat}
def zv : Zp p → Int := Quot.lift (fun x => x % (p : Int)) fun a b h => h
theorem zv_zm (x : Int) : zv (zm p x) = x % p := rfl
theorem zm_zv (x : Zp p) : zm p (zv x) = x := Quot.inductionOn x fun x => zm_mod x
theorem zv_ge [P : Prm p] (x : Zp p) : 0 ≤ zv x := Quot.inductionOn x fun x => Int.emod_nonneg _ (by have := P.pr.1; omega)
theorem zv_lt [P : Prm p] (x : Zp p) : zv x < p := Quot.inductionOn x fun x => Int.emod_lt_of_pos _ (by have := P.pr.1; omega)
theorem zv_inj {x y : Zp p} (h : zv x = zv y) : x = y := by rw [← zm_zv x, ← zm_zv y, h]
theorem zv_of {x : Int} (h0 : 0 ≤ x) (h1 : x < p) : zv (zm p x) = x := by rw [zv_zm, Int.emod_eq_of_lt h0 h1]
theorem zpow_zero' (n : Nat) (h : 0 < n) : (0 : Zp p) ^ n = 0 := by
  cases n with
  | zero => omega
  | succ n => show (0 : Zp p) ^ n * 0 = 0; grind
open Classical in
noncomputable def zinv (x : Zp p) : Zp p := if x = 0 then 0 else x ^ (p - 2)
noncomputable instance : Inv (Zp p) := ⟨zinv⟩
noncomputable instance : Div (Zp p) := ⟨fun x y => x * y⁻¹⟩
noncomputable def zzpow (x : Zp p) : Int → Zp p
  | .ofNat n => x ^ n
  | .negSucc n => (x ^ (n + 1))⁻¹
noncomputable instance : HPow (Zp p) Int (Zp p) := ⟨zzpow⟩
theorem z_inv_zero : (0 : Zp p)⁻¹ = 0 := by show zinv 0 = 0; unfold zinv; rw [if_pos rfl]
theorem z_one_inv [P : Prm p] : (1 : Zp p)⁻¹ = 1 := by
  show zinv 1 = 1
  unfold zinv
  split
  · rename_i h; exact h.symm
  · have : ∀ n : Nat, (1 : Zp p) ^ n = 1 := by
      intro n
      induction n with
      | zero => rfl
      | succ n ih => show (1 : Zp p) ^ n * 1 = 1; rw [ih]; grind
    exact this _
theorem z_mul_inv [P : Prm p] {x : Zp p} (h : x ≠ 0) : x * x⁻¹ = 1 := by
  show x * zinv x = 1
  unfold zinv
  rw [if_neg h]
  have := z_inv P.pr h
  grind
theorem z_inv_inv [P : Prm p] (x : Zp p) : x⁻¹⁻¹ = x := by
  by_cases h : x = 0
  · subst h; rw [z_inv_zero, z_inv_zero]
  · have a := z_mul_inv h
    have h' : x⁻¹ ≠ 0 := by
      intro e
      rw [e] at a
      have : (1 : Zp p) = 0 := by grind
      exact z_ne_num 1 (by decide) (by have := P.pr.1; omega) this
    have b := z_mul_inv h'
    have : x * (x⁻¹ * x⁻¹⁻¹) = x := by rw [b]; grind
    have t : x * (x⁻¹ * x⁻¹⁻¹) = (x * x⁻¹) * x⁻¹⁻¹ := by grind
    rw [t, a] at this
    grind
noncomputable instance [P : Prm p] : Lean.Grind.Field (Zp p) where
  toCommRing := inferInstance
  div_eq_mul_inv := fun a b => rfl
  zero_ne_one := fun h => z_ne_num (p := p) 1 (by decide) (by have := P.pr.1; omega) h.symm
  inv_zero := z_inv_zero
  mul_inv_cancel := fun h => z_mul_inv h
  zpow_zero := fun a => rfl
  zpow_succ := fun a n => rfl
  zpow_neg := fun a n => by
    cases n with
    | ofNat n =>
      cases n with
      | zero => exact z_one_inv.symm
      | succ n => rfl
    | negSucc n => exact (z_inv_inv _).symm
end
/-! ### multiples in a commutative group -/
section
open Lean.Grind
variable {M : Type} [AddCommGroup M]
def nsm (n : Nat) (a : M) : M := match n with
  | 0 => 0
  | n + 1 => nsm n a + a
def zsm (n : Int) (a : M) : M := match n with
  | .ofNat n => nsm n a
  | .negSucc n => -(nsm (n + 1) a)
theorem g_add_comm (a b : M) : a + b = b + a := AddCommMonoid.add_comm a b
theorem g_add_assoc (a b c : M) : a + b + c = a + (b + c) := AddCommMonoid.add_assoc a b c
theorem g_add_zero (a : M) : a + 0 = a := AddCommMonoid.add_zero a
theorem g_zero_add (a : M) : 0 + a = a := by rw [g_add_comm]; exact g_add_zero a
theorem g_neg_add (a : M) : -a + a = 0 := AddCommGroup.neg_add_cancel a
theorem g_add_neg (a : M) : a + -a = 0 := by rw [g_add_comm]; exact g_neg_add a
theorem g_cancel_r {a b c : M} (h : a + c = b + c) : a = b := by
  have := congrArg (fun z => z + -c) h
  simp only [g_add_assoc, g_add_neg, g_add_zero] at this
  exact this
theorem g_cancel_l {a b c : M} (h : c + a = c + b) : a = b := g_cancel_r (c := c) (by rw [g_add_comm a, g_add_comm b]; exact h)
theorem g_neg_eq {a b : M} (h : a + b = 0) : b = -a := g_cancel_l (c := a) (by rw [h, g_add_neg])
theorem g_neg_neg (a : M) : - -a = a := (g_neg_eq (g_neg_add a)).symm
theorem g_neg_addd (a b : M) : -(a + b) = -a + -b := (g_neg_eq (by
  rw [g_add_assoc, g_add_comm (-a), ← g_add_assoc b, g_add_neg, g_zero_add, g_add_neg])).symm
theorem g_neg_zero : -(0 : M) = 0 := (g_neg_eq (g_add_zero 0)).symm
theorem g_sub (a b : M) : a - b = a + -b := AddCommGroup.sub_eq_add_neg a b
theorem nsm_zero (a : M) : nsm 0 a = 0 := rfl
theorem nsm_succ (n : Nat) (a : M) : nsm (n + 1) a = nsm n a + a := rfl
theorem nsm_one (a : M) : nsm 1 a = a := g_zero_add a
theorem nsm_add (m n : Nat) (a : M) : nsm (m + n) a = nsm m a + nsm n a := by
  induction n with
  | zero => rw [Nat.add_zero, nsm_zero, g_add_zero]
  | succ n ih => rw [← Nat.add_assoc, nsm_succ, nsm_succ, ih, g_add_assoc]
theorem nsm_zero' (n : Nat) : nsm n (0 : M) = 0 := by
  induction n with
  | zero => rfl
  | succ n ih => rw [nsm_succ, ih, g_add_zero]
theorem nsm_addd (n : Nat) (a b : M) : nsm n (a + b) = nsm n a + nsm n b := by
  induction n with
  | zero => rw [nsm_zero, nsm_zero, nsm_zero, g_add_zero]
  | succ n ih => rw [nsm_succ, nsm_succ, nsm_succ, ih, g_add_assoc, g_add_assoc, ← g_add_assoc (nsm n b), ← g_add_assoc a, g_add_comm a (nsm n b)]
theorem nsm_mul (m n : Nat) (a : M) : nsm (m * n) a = nsm m (nsm n a) := by
  induction m with
  | zero => rw [Nat.zero_mul]; rfl
  | succ m ih => rw [Nat.succ_mul, nsm_add, ih, nsm_succ]
theorem nsm_neg (n : Nat) (a : M) : nsm n (-a) = -(nsm n a) := g_neg_eq (by rw [← nsm_addd, g_add_neg, nsm_zero'])
theorem zsm_nat (n : Nat) (a : M) : zsm (n : Int) a = nsm n a := rfl
theorem zsm_neg_nat (n : Nat) (a : M) : zsm (-(n : Int)) a = -(nsm n a) := by
  cases n with
  | zero => show nsm 0 a = -(nsm 0 a); rw [nsm_zero, g_neg_zero]
  | succ n => rfl
theorem zsm_neg (n : Int) (a : M) : zsm (-n) a = -(zsm n a) := by
  rcases Int.eq_nat_or_neg n with ⟨k, rfl | rfl⟩
  · rw [zsm_neg_nat, zsm_nat]
  · rw [Int.neg_neg, zsm_neg_nat, zsm_nat, g_neg_neg]
theorem zsm_negp (n : Int) (a : M) : zsm n (-a) = -(zsm n a) := by
  rcases Int.eq_nat_or_neg n with ⟨k, rfl | rfl⟩
  · rw [zsm_nat, zsm_nat, nsm_neg]
  · rw [zsm_neg_nat, zsm_neg_nat, nsm_neg]
theorem zsm_sub_nat (m n : Nat) (a : M) : zsm ((m : Int) - n) a = nsm m a + -(nsm n a) := by
  rcases Nat.le_total n m with h | h
  · obtain ⟨k, rfl⟩ := Nat.exists_eq_add_of_le h
    rw [show ((n + k : Nat) : Int) - n = (k : Int) by omega, zsm_nat, Nat.add_comm, nsm_add, g_add_assoc, g_add_neg, g_add_zero]
  · obtain ⟨k, rfl⟩ := Nat.exists_eq_add_of_le h
    rw [show (m : Int) - ((m + k : Nat) : Int) = -(k : Int) by omega, zsm_neg_nat, nsm_add, g_neg_addd, ← g_add_assoc, g_add_neg, g_zero_add]
theorem zsm_add (m n : Int) (a : M) : zsm (m + n) a = zsm m a + zsm n a := by
  rcases Int.eq_nat_or_neg m with ⟨k, rfl | rfl⟩ <;> rcases Int.eq_nat_or_neg n with ⟨l, rfl | rfl⟩
  · rw [← Int.natCast_add, zsm_nat, zsm_nat, zsm_nat, nsm_add]
  · rw [← Int.sub_eq_add_neg, zsm_sub_nat, zsm_nat, zsm_neg_nat]
  · rw [Int.add_comm, ← Int.sub_eq_add_neg, zsm_sub_nat, zsm_nat, zsm_neg_nat, g_add_comm]
  · rw [show -(k : Int) + -(l : Int) = -((k + l : Nat) : Int) by omega, zsm_neg_nat, zsm_neg_nat, zsm_neg_nat, nsm_add, g_neg_addd]
theorem zsm_addd (n : Int) (a b : M) : zsm n (a + b) = zsm n a + zsm n b := by
  rcases Int.eq_nat_or_neg n with ⟨k, rfl | rfl⟩
  · rw [zsm_nat, zsm_nat, zsm_nat, nsm_addd]
  · rw [zsm_neg_nat, zsm_neg_nat, zsm_neg_nat, nsm_addd, g_neg_addd]
theorem zsm_mul (m n : Int) (a : M) : zsm (m * n) a = zsm m (zsm n a) := by
  rcases Int.eq_nat_or_neg m with ⟨k, rfl | rfl⟩ <;> rcases Int.eq_nat_or_neg n with ⟨l, rfl | rfl⟩
  · rw [← Int.natCast_mul, zsm_nat, zsm_nat, zsm_nat, nsm_mul]
  · rw [Int.mul_neg, ← Int.natCast_mul, zsm_neg_nat, zsm_nat, zsm_neg_nat, nsm_neg, nsm_mul]
  · rw [Int.neg_mul, ← Int.natCast_mul, zsm_neg_nat, zsm_neg_nat, zsm_nat, nsm_mul]
  · rw [Int.neg_mul_neg, ← Int.natCast_mul, zsm_nat, zsm_neg_nat, zsm_neg_nat, nsm_neg, g_neg_neg, nsm_mul]
theorem zsm_zero (a : M) : zsm 0 a = 0 := rfl
theorem zsm_one (a : M) : zsm 1 a = a := nsm_one a
theorem zsm_zero' (n : Int) : zsm n (0 : M) = 0 := by
  rcases Int.eq_nat_or_neg n with ⟨k, rfl | rfl⟩
  · rw [zsm_nat, nsm_zero']
  · rw [zsm_neg_nat, nsm_zero', g_neg_zero]
theorem zsm_two (a : M) : zsm 2 a = a + a := by
  show nsm 2 a = _
  rw [nsm_succ, nsm_one]
end
end Mi
set_option maxHeartbeats 4000000
namespace Mi
open Lean.Grind
section
variable {F : Type} [Field F]
/-! ### the sum of points of a short Weierstrass curve, over any field -/
abbrev Pt (F : Type) := Option (F × F)
def OnC {R : Type} [CommRing R] (a b : R) : Pt R → Prop
  | none => True
  | some (x, y) => y * y = x * x * x + a * x + b
def pneg {R : Type} [CommRing R] : Pt R → Pt R
  | none => none
  | some (x, y) => some (x, -y)
open Classical in
noncomputable def padd (a : F) : Pt F → Pt F → Pt F
  | none, q => q
  | some p, none => some p
  | some (x1, y1), some (x2, y2) =>
    if x1 = x2 ∧ y1 + y2 = 0 then none
    else
      let l := if x1 = x2 then (3 * x1 * x1 + a) * (2 * y1)⁻¹ else (y2 - y1) * (x2 - x1)⁻¹
      some (l * l - x1 - x2, l * (x1 - (l * l - x1 - x2)) - y1)
open Classical in
theorem padd_eq (a x1 y1 x2 y2 : F) : padd a (some (x1, y1)) (some (x2, y2)) = if x1 = x2 ∧ y1 + y2 = 0 then none
    else
      let l := if x1 = x2 then (3 * x1 * x1 + a) * (2 * y1)⁻¹ else (y2 - y1) * (x2 - x1)⁻¹
      some (l * l - x1 - x2, l * (x1 - (l * l - x1 - x2)) - y1) := rfl
/-- l is the slope of the line through both -/
def Slp (a x1 y1 x2 y2 l : F) : Prop := y2 - y1 = l * (x2 - x1) ∧ l * (y1 + y2) = x1 * x1 + x1 * x2 + x2 * x2 + a
theorem f_dom {x y : F} (h : x * y = 0) : x = 0 ∨ y = 0 := by
  by_cases hx : x = 0
  · exact .inl hx
  · refine .inr ?_
    have := Field.mul_inv_cancel hx
    grind
theorem f_cancel {x y : F} (hx : x ≠ 0) (h : x * y = 0) : y = 0 := (f_dom h).resolve_left hx
theorem slp_ex {a b x1 y1 x2 y2 : F} (h2 : (2 : F) ≠ 0) (o1 : OnC a b (some (x1, y1))) (o2 : OnC a b (some (x2, y2))) (hn : ¬ (x1 = x2 ∧ y1 + y2 = 0)) :
    ∃ l, Slp a x1 y1 x2 y2 l ∧ padd a (some (x1, y1)) (some (x2, y2)) = some (l * l - x1 - x2, l * (x1 - (l * l - x1 - x2)) - y1) := by
  have o1 : y1 * y1 = x1 * x1 * x1 + a * x1 + b := o1
  have o2 : y2 * y2 = x2 * x2 * x2 + a * x2 + b := o2
  by_cases hx : x1 = x2
  · subst hx
    have hs : y1 + y2 ≠ 0 := fun e => hn ⟨rfl, e⟩
    have hy : y1 = y2 := by
      have : (y1 + y2) * (y1 - y2) = 0 := by grind
      have := f_cancel hs this
      grind
    subst hy
    have h0 : 2 * y1 ≠ 0 := by grind
    have iv := Field.mul_inv_cancel h0
    refine ⟨(3 * x1 * x1 + a) * (2 * y1)⁻¹, ⟨by grind, by grind⟩, ?_⟩
    rw [padd_eq, if_neg hn, if_pos rfl]
  · have h0 : x2 - x1 ≠ 0 := by grind
    have iv := Field.mul_inv_cancel h0
    refine ⟨(y2 - y1) * (x2 - x1)⁻¹, ⟨by grind, ?_⟩, ?_⟩
    · have : (x2 - x1) * ((y2 - y1) * (x2 - x1)⁻¹ * (y1 + y2) - (x1 * x1 + x1 * x2 + x2 * x2 + a)) = 0 := by grind
      have := f_cancel h0 this
      grind
    · rw [padd_eq, if_neg hn, if_neg hx]
theorem slp_uniq {a b x1 y1 x2 y2 l m : F} (o1 : OnC a b (some (x1, y1))) (o2 : OnC a b (some (x2, y2))) (hn : ¬ (x1 = x2 ∧ y1 + y2 = 0)) (h1 : Slp a x1 y1 x2 y2 l) (h2 : Slp a x1 y1 x2 y2 m) : l = m := by
  obtain ⟨a1, a2⟩ := h1
  obtain ⟨b1, b2⟩ := h2
  by_cases hx : x1 = x2
  · have hs : y1 + y2 ≠ 0 := fun e => hn ⟨hx, e⟩
    have : (y1 + y2) * (l - m) = 0 := by grind
    have := f_cancel hs this
    grind
  · have h0 : x2 - x1 ≠ 0 := by grind
    have : (x2 - x1) * (l - m) = 0 := by grind
    have := f_cancel h0 this
    grind
theorem padd_slp {a b x1 y1 x2 y2 l : F} (h2 : (2 : F) ≠ 0) (o1 : OnC a b (some (x1, y1))) (o2 : OnC a b (some (x2, y2))) (hn : ¬ (x1 = x2 ∧ y1 + y2 = 0)) (h : Slp a x1 y1 x2 y2 l) :
    padd a (some (x1, y1)) (some (x2, y2)) = some (l * l - x1 - x2, l * (x1 - (l * l - x1 - x2)) - y1) := by
  obtain ⟨m, hm, e⟩ := slp_ex h2 o1 o2 hn
  have := slp_uniq o1 o2 hn h hm
  subst this
  exact e
theorem slp_on {a b x1 y1 x2 y2 l : F} (o1 : OnC a b (some (x1, y1))) (h : Slp a x1 y1 x2 y2 l) : OnC a b (some (l * l - x1 - x2, l * (x1 - (l * l - x1 - x2)) - y1)) := by
  have o1 : y1 * y1 = x1 * x1 * x1 + a * x1 + b := o1
  obtain ⟨a1, a2⟩ := h
  show (l * (x1 - (l * l - x1 - x2)) - y1) * (l * (x1 - (l * l - x1 - x2)) - y1) = (l * l - x1 - x2) * (l * l - x1 - x2) * (l * l - x1 - x2) + a * (l * l - x1 - x2) + b
  have e : y2 = y1 + l * (x2 - x1) := by grind
  subst e
  have ea : a = l * (y1 + (y1 + l * (x2 - x1))) - x1 * x1 - x1 * x2 - x2 * x2 := by grind
  subst ea
  grind
theorem on_neg' {a b : F} {P : Pt F} (h : OnC a b P) : OnC a b (pneg P) := by
  cases P with
  | none => exact trivial
  | some p =>
    obtain ⟨x, y⟩ := p
    have h : y * y = x * x * x + a * x + b := h
    show -y * -y = x * x * x + a * x + b
    grind
theorem pneg_pneg (P : Pt F) : pneg (pneg P) = P := by
  cases P with
  | none => rfl
  | some p =>
    obtain ⟨x, y⟩ := p
    show some (x, - -y) = some (x, y)
    rw [show - -y = y by grind]
theorem padd_zero (a : F) (P : Pt F) : padd a P none = P := by
  cases P <;> rfl
theorem zero_padd (a : F) (P : Pt F) : padd a none P = P := rfl
theorem padd_neg (a : F) (P : Pt F) : padd a P (pneg P) = none := by
  cases P with
  | none => rfl
  | some p =>
    obtain ⟨x, y⟩ := p
    show padd a (some (x, y)) (some (x, -y)) = none
    rw [padd_eq, if_pos ⟨rfl, by grind⟩]
theorem neg_padd (a : F) (P : Pt F) : padd a (pneg P) P = none := by
  have := padd_neg a (pneg P)
  rwa [pneg_pneg] at this
theorem padd_none {a : F} {P Q : Pt F} (h : padd a P Q = none) : Q = pneg P := by
  cases P with
  | none => exact h
  | some p =>
    cases Q with
    | none => cases h
    | some q =>
      obtain ⟨x1, y1⟩ := p
      obtain ⟨x2, y2⟩ := q
      rw [padd_eq] at h
      by_cases c : x1 = x2 ∧ y1 + y2 = 0
      · show some (x2, y2) = some (x1, -y1)
        rw [c.1, show y2 = -y1 by grind]
      · rw [if_neg c] at h
        cases h
theorem padd_on {a b : F} (h2 : (2 : F) ≠ 0) {P Q : Pt F} (hP : OnC a b P) (hQ : OnC a b Q) : OnC a b (padd a P Q) := by
  cases P with
  | none => exact hQ
  | some p =>
    cases Q with
    | none => exact hP
    | some q =>
      obtain ⟨x1, y1⟩ := p
      obtain ⟨x2, y2⟩ := q
      by_cases c : x1 = x2 ∧ y1 + y2 = 0
      · rw [padd_eq, if_pos c]; exact trivial
      · obtain ⟨l, s, e⟩ := slp_ex h2 hP hQ c
        rw [e]
        exact slp_on hP s
theorem slp_symm {a x1 y1 x2 y2 l : F} (h : Slp a x1 y1 x2 y2 l) : Slp a x2 y2 x1 y1 l := by
  obtain ⟨a1, a2⟩ := h
  exact ⟨by grind, by grind⟩
theorem padd_comm {a b : F} (h2 : (2 : F) ≠ 0) {P Q : Pt F} (hP : OnC a b P) (hQ : OnC a b Q) : padd a P Q = padd a Q P := by
  cases P with
  | none => exact (padd_zero a Q).symm
  | some p =>
    cases Q with
    | none => rfl
    | some q =>
      obtain ⟨x1, y1⟩ := p
      obtain ⟨x2, y2⟩ := q
      by_cases c : x1 = x2 ∧ y1 + y2 = 0
      · have c' : x2 = x1 ∧ y2 + y1 = 0 := ⟨c.1.symm, by have := c.2; grind⟩
        rw [padd_eq, padd_eq, if_pos c, if_pos c']
      · have c' : ¬ (x2 = x1 ∧ y2 + y1 = 0) := fun z => c ⟨z.1.symm, by have := z.2; grind⟩
        obtain ⟨l, s, e⟩ := slp_ex h2 hP hQ c
        rw [e, padd_slp h2 hQ hP c' (slp_symm s), show l * l - x2 - x1 = l * l - x1 - x2 by grind]
        have := s.1
        congr 2
        grind
theorem pneg_padd {a b : F} (h2 : (2 : F) ≠ 0) {P Q : Pt F} (hP : OnC a b P) (hQ : OnC a b Q) : pneg (padd a P Q) = padd a (pneg P) (pneg Q) := by
  cases P with
  | none => rfl
  | some p =>
    cases Q with
    | none => rfl
    | some q =>
      obtain ⟨x1, y1⟩ := p
      obtain ⟨x2, y2⟩ := q
      by_cases c : x1 = x2 ∧ y1 + y2 = 0
      · have c' : x1 = x2 ∧ -y1 + -y2 = 0 := ⟨c.1, by have := c.2; grind⟩
        show pneg (padd a (some (x1, y1)) (some (x2, y2))) = padd a (some (x1, -y1)) (some (x2, -y2))
        rw [padd_eq, padd_eq, if_pos c, if_pos c']; rfl
      · have c' : ¬ (x1 = x2 ∧ -y1 + -y2 = 0) := fun z => c ⟨z.1, by have := z.2; grind⟩
        obtain ⟨l, s, e⟩ := slp_ex h2 hP hQ c
        have s' : Slp a x1 (-y1) x2 (-y2) (-l) := ⟨by have := s.1; grind, by have := s.2; grind⟩
        have e' := padd_slp h2 (on_neg' hP) (on_neg' hQ) c' s'
        show pneg (padd a (some (x1, y1)) (some (x2, y2))) = padd a (some (x1, -y1)) (some (x2, -y2))
        rw [e, e', show -l * -l = l * l by grind]
        show some (_, _) = some (_, _)
        congr 2
        grind
/-- the curve has no double point -/
def NoSing {R : Type} [CommRing R] (a b : R) : Prop := 4 * a * a * a + 27 * b * b ≠ 0
theorem NoSing.ns {a b x : F} (h : NoSing a b) (o : OnC a b (some (x, 0))) (hd : 3 * x * x + a = 0) : False := by
  have o : (0 : F) * 0 = x * x * x + a * x + b := o
  apply h
  have ea : a = -(3 * x * x) := by grind
  have eb : b = 2 * x * x * x := by grind
  subst ea eb
  grind
theorem padd_cancel {a b : F} (h2 : (2 : F) ≠ 0) (N : NoSing a b) {P Q : Pt F} (hP : OnC a b P) (hQ : OnC a b Q) : padd a (padd a P Q) (pneg Q) = P := by
  cases P with
  | none => exact padd_neg a Q
  | some p =>
    cases Q with
    | none => rfl
    | some q =>
      obtain ⟨x1, y1⟩ := p
      obtain ⟨x2, y2⟩ := q
      by_cases c : x1 = x2 ∧ y1 + y2 = 0
      · have : padd a (some (x1, y1)) (some (x2, y2)) = none := by rw [padd_eq, if_pos c]
        rw [this]
        show some (x2, -y2) = some (x1, y1)
        rw [c.1, show y1 = -y2 by have := c.2; grind]
      · obtain ⟨l, s, e⟩ := slp_ex h2 hP hQ c
        have o3 := slp_on hP s
        rw [e]
        obtain ⟨s1, s2⟩ := s
        have oq : y2 * y2 = x2 * x2 * x2 + a * x2 + b := hQ
        generalize hx3 : l * l - x1 - x2 = x3 at *
        generalize hy3 : l * (x1 - x3) - y1 = y3 at *
        have s' : Slp a x3 y3 x2 (-y2) (-l) := by
          refine ⟨by grind, ?_⟩
          have : l * (y2 - y3) = x3 * x3 + x3 * x2 + x2 * x2 + a := by
            have e3 : y3 = l * (x2 - x3) - y2 := by grind
            have ea : a = l * (y1 + y2) - x1 * x1 - x1 * x2 - x2 * x2 := by grind
            have e1 : y1 = y2 - l * (x2 - x1) := by grind
            have ex : x1 = l * l - x2 - x3 := by grind
            subst e3 ea e1 ex
            grind
          grind
        have c' : ¬ (x3 = x2 ∧ y3 + -y2 = 0) := by
          intro z
          obtain ⟨z1, z2⟩ := z
          have t1 : 2 * y2 = 0 := by
            have := s'.1
            subst z1
            grind
          have y0 : y2 = 0 := f_cancel h2 t1
          have t2 := s'.2
          subst z1
          subst y0
          exact N.ns hQ (by grind)
        show padd a (some (x3, y3)) (some (x2, -y2)) = _
        rw [padd_slp h2 o3 (on_neg' hQ) c' s', show -l * -l - x3 - x2 = x1 by grind]
        congr 2
        grind
theorem padd_inj {a b : F} (h2 : (2 : F) ≠ 0) (N : NoSing a b) {P P' Q : Pt F} (hP : OnC a b P) (hP' : OnC a b P') (hQ : OnC a b Q) (e : padd a P Q = padd a P' Q) : P = P' := by
  rw [← padd_cancel h2 N hP hQ, e, padd_cancel h2 N hP' hQ]
/-! ### associativity -/
theorem as_x {x1 x2 x3 y2 l m N1 N2 D1 D2 : F}
  (E : 2 * y2 * (l - m) = m * m * (x3 - x2) - l * l * (x1 - x2) + x1 * x1 + x1 * x2 - x2 * x3 - x3 * x3)
  (hD1 : D1 = x3 - (l * l - x1 - x2)) (hD2 : D2 = x1 - (m * m - x2 - x3))
  (hN1 : N1 = 2 * y2 + m * (x3 - x2) - l * (x2 - (l * l - x1 - x2)))
  (hN2 : N2 = 2 * y2 + l * (x1 - x2) - m * (x2 - (m * m - x2 - x3))) :
  N1 * N1 * D2 * D2 - N2 * N2 * D1 * D1 = (l * l - m * m + 2 * x3 - 2 * x1) * D1 * D1 * D2 * D2 := by
  subst hD1 hD2 hN1 hN2
  grind
theorem as_y {x1 x2 x3 y1 y2 y3 l m N1 N2 D1 D2 : F}
  (E : 2 * y2 * (l - m) = m * m * (x3 - x2) - l * l * (x1 - x2) + x1 * x1 + x1 * x2 - x2 * x3 - x3 * x3)
  (hD1 : D1 = x3 - (l * l - x1 - x2)) (hD2 : D2 = x1 - (m * m - x2 - x3))
  (hN1 : N1 = 2 * y2 + m * (x3 - x2) - l * (x2 - (l * l - x1 - x2)))
  (hN2 : N2 = 2 * y2 + l * (x1 - x2) - m * (x2 - (m * m - x2 - x3)))
  (h1 : y1 = y2 + l * (x1 - x2)) (h3 : y3 = y2 + m * (x3 - x2)) :
  N1 * D2 * (2 * x3 * D1 * D1 + (l * l - x1 - x2) * D1 * D1 - N1 * N1) - N2 * D1 * (x1 * D1 * D1 + x3 * D1 * D1 + (l * l - x1 - x2) * D1 * D1 - N1 * N1) = (y3 - y1) * D1 * D1 * D1 * D2 := by
  subst hD1 hD2 hN1 hN2 h1 h3
  grind
theorem xx_aux {l m l2 m2 D1 D2 x1 x3 : F} (X : l2 * D1 * (l2 * D1) * D2 * D2 - m2 * D2 * (m2 * D2) * D1 * D1 = (l * l - m * m + 2 * x3 - 2 * x1) * D1 * D1 * D2 * D2) :
    D1 * (D1 * (D2 * (D2 * (l2 * l2 - m2 * m2 - (l * l - m * m + 2 * x3 - 2 * x1))))) = 0 := by grind
theorem xx_aux2 {l m l2 m2 x1 x2 x3 x4 x6 : F} (e : l2 * l2 - m2 * m2 - (l * l - m * m + 2 * x3 - 2 * x1) = 0) (h4 : l * l - x1 - x2 = x4) (h6 : m * m - x2 - x3 = x6) : l2 * l2 - x4 - x3 = m2 * m2 - x1 - x6 := by grind
theorem yy_aux2 {l2 m2 x1 x3 x4 y1 y3 y4 x : F} (e : l2 * (x3 - x) - m2 * (x1 - x) - (y3 - y1) = 0) (u1 : y3 - y4 = l2 * (x3 - x4)) : l2 * (x4 - x) - y4 = m2 * (x1 - x) - y1 := by grind
theorem yy_aux {l2 m2 D1 D2 x1 x3 x4 y1 y3 : F} (Y : l2 * D1 * D2 * (2 * x3 * D1 * D1 + x4 * D1 * D1 - l2 * D1 * (l2 * D1)) - m2 * D2 * D1 * (x1 * D1 * D1 + x3 * D1 * D1 + x4 * D1 * D1 - l2 * D1 * (l2 * D1)) = (y3 - y1) * D1 * D1 * D1 * D2) :
    D1 * (D1 * (D1 * (D2 * (l2 * (x3 - (l2 * l2 - x4 - x3)) - m2 * (x1 - (l2 * l2 - x4 - x3)) - (y3 - y1))))) = 0 := by grind
theorem as_gen {a b x1 y1 x2 y2 x3 y3 x4 y4 x6 y6 : F} (h2 : (2 : F) ≠ 0) (o1 : OnC a b (some (x1, y1))) (o2 : OnC a b (some (x2, y2))) (o3 : OnC a b (some (x3, y3)))
    (eS : padd a (some (x1, y1)) (some (x2, y2)) = some (x4, y4)) (eT : padd a (some (x2, y2)) (some (x3, y3)) = some (x6, y6)) (n1 : x4 ≠ x3) (n2 : x1 ≠ x6) :
    padd a (some (x4, y4)) (some (x3, y3)) = padd a (some (x1, y1)) (some (x6, y6)) := by
  have c1 : ¬ (x1 = x2 ∧ y1 + y2 = 0) := fun z => by rw [padd_eq, if_pos z] at eS; cases eS
  have c2 : ¬ (x2 = x3 ∧ y2 + y3 = 0) := fun z => by rw [padd_eq, if_pos z] at eT; cases eT
  have o4 : OnC a b (some (x4, y4)) := by rw [← eS]; exact padd_on h2 o1 o2
  have o6 : OnC a b (some (x6, y6)) := by rw [← eT]; exact padd_on h2 o2 o3
  obtain ⟨l, sl, el⟩ := slp_ex h2 o1 o2 c1
  obtain ⟨m, sm, em⟩ := slp_ex h2 o2 o3 c2
  have c3 : ¬ (x4 = x3 ∧ y4 + y3 = 0) := fun z => n1 z.1
  have c4 : ¬ (x1 = x6 ∧ y1 + y6 = 0) := fun z => n2 z.1
  obtain ⟨l2, sl2, el2⟩ := slp_ex h2 o4 o3 c3
  obtain ⟨m2, sm2, em2⟩ := slp_ex h2 o1 o6 c4
  rw [el2, em2]
  rw [el] at eS
  rw [em] at eT
  have e4 := Option.some.inj eS
  have e6 := Option.some.inj eT
  have x4e : l * l - x1 - x2 = x4 := congrArg Prod.fst e4
  have y4e := congrArg Prod.snd e4
  have x6e : m * m - x2 - x3 = x6 := congrArg Prod.fst e6
  have y6e := congrArg Prod.snd e6
  dsimp only at y4e y6e
  rw [x4e] at y4e
  rw [x6e] at y6e
  clear eS eT e4 e6 el em el2 em2 o1 o2 o3 o4 o6 c1 c2 c3 c4
  obtain ⟨s1, s2⟩ := sl
  obtain ⟨t1, t2⟩ := sm
  have u1 := sl2.1
  have v1 := sm2.1
  clear sl2 sm2
  have h1 : y1 = y2 + l * (x1 - x2) := by grind
  have h3 : y3 = y2 + m * (x3 - x2) := by grind
  have E : 2 * y2 * (l - m) = m * m * (x3 - x2) - l * l * (x1 - x2) + x1 * x1 + x1 * x2 - x2 * x3 - x3 * x3 := by
    have q : l * (y1 + y2) - m * (y2 + y3) = x1 * x1 + x1 * x2 - x2 * x3 - x3 * x3 := by grind
    rw [h1, h3] at q
    grind
  have hD1 : x3 - x4 = x3 - (l * l - x1 - x2) := by rw [x4e]
  have hD2 : x1 - x6 = x1 - (m * m - x2 - x3) := by rw [x6e]
  have hN1 : l2 * (x3 - x4) = 2 * y2 + m * (x3 - x2) - l * (x2 - (l * l - x1 - x2)) := by rw [x4e]; grind
  have hN2 : m2 * (x1 - x6) = 2 * y2 + l * (x1 - x2) - m * (x2 - (m * m - x2 - x3)) := by rw [x6e]; grind
  have X := as_x E hD1 hD2 hN1 hN2
  have Y := as_y E hD1 hD2 hN1 hN2 h1 h3
  rw [x4e] at Y
  have d1 : x3 - x4 ≠ 0 := by grind
  have d2 : x1 - x6 ≠ 0 := by grind
  generalize hp : x3 - x4 = D1 at *
  generalize hq : x1 - x6 = D2 at *
  have xx : l2 * l2 - x4 - x3 = m2 * m2 - x1 - x6 := xx_aux2 (f_cancel d2 (f_cancel d2 (f_cancel d1 (f_cancel d1 (xx_aux X))))) x4e x6e
  have yy : l2 * (x4 - (l2 * l2 - x4 - x3)) - y4 = m2 * (x1 - (m2 * m2 - x1 - x6)) - y1 := by
    rw [← xx]
    exact yy_aux2 (f_cancel d2 (f_cancel d1 (f_cancel d1 (f_cancel d1 (yy_aux Y))))) (by rw [hp]; exact u1)
  rw [yy, xx]
/-- (P+P)+R, but for one case -/
theorem as_dbl0 {a b : F} (h2 : (2 : F) ≠ 0) (N : NoSing a b) {P R : Pt F} (hP : OnC a b P) (hR : OnC a b R) (hn : padd a P P ≠ R) : padd a (padd a P P) R = padd a P (padd a P R) := by
  have nP := on_neg' hP
  have PP := padd_on h2 hP hP
  have nPP := padd_on h2 nP nP
  -- what is trivial
  by_cases e1 : padd a P P = none
  · have q := padd_none e1
    rw [e1, zero_padd]
    have : padd a P (padd a P R) = padd a (padd a R P) (pneg P) := by
      rw [padd_comm h2 hP (padd_on h2 hP hR), padd_comm h2 hP hR]
      rw [← q]
    rw [this, padd_cancel h2 N hR hP]
  by_cases e2 : padd a P R = none
  · have q := padd_none e2
    rw [e2, padd_zero, q]
    exact padd_cancel h2 N hP hP
  by_cases e3 : padd a (padd a P P) R = none
  · have q := padd_none e3
    rw [e3, q, pneg_padd h2 hP hP]
    have : padd a P (padd a (pneg P) (pneg P)) = pneg P := by
      rw [padd_comm h2 hP nPP]
      have := padd_cancel h2 N nP nP
      rwa [pneg_pneg] at this
    rw [this, padd_neg]
  by_cases e4 : padd a P (padd a P R) = none
  · have q := padd_none e4
    have : R = padd a (pneg P) (pneg P) := by
      have t := padd_cancel h2 N hR hP
      rw [padd_comm h2 hR hP, q] at t
      exact t.symm
    rw [e4, this, ← pneg_padd h2 hP hP, padd_neg]
  cases P with
  | none => rfl
  | some p =>
    cases R with
    | none => rw [padd_zero, padd_zero]
    | some r =>
      obtain ⟨x1, y1⟩ := p
      obtain ⟨x3, y3⟩ := r
      cases eS : padd a (some (x1, y1)) (some (x1, y1)) with
      | none => exact absurd eS e1
      | some s =>
        cases eT : padd a (some (x1, y1)) (some (x3, y3)) with
        | none => exact absurd eT e2
        | some t =>
          obtain ⟨x4, y4⟩ := s
          obtain ⟨x6, y6⟩ := t
          rw [eS] at e3 hn
          rw [eT] at e4
          have o4 : OnC a b (some (x4, y4)) := by rw [← eS]; exact PP
          have o6 : OnC a b (some (x6, y6)) := by rw [← eT]; exact padd_on h2 hP hR
          have same : ∀ {x y y' : F}, OnC a b (some (x, y)) → OnC a b (some (x, y')) → y = y' ∨ y + y' = 0 := by
            intro x y y' p q
            have p : y * y = x * x * x + a * x + b := p
            have q : y' * y' = x * x * x + a * x + b := q
            have : (y - y') * (y + y') = 0 := by grind
            rcases f_dom this with h | h
            · exact .inl (by grind)
            · exact .inr h
          have n1 : x4 ≠ x3 := by
            intro z
            subst z
            rcases same o4 hR with h | h
            · subst h; exact hn rfl
            · exact e3 (by rw [padd_eq, if_pos ⟨rfl, h⟩])
          have n2 : x1 ≠ x6 := by
            intro z
            subst z
            rcases same hP o6 with h | h
            · subst h
              -- P + R = P
              have q : padd a (some (x3, y3)) (some (x1, y1)) = padd a none (some (x1, y1)) := by
                rw [padd_comm h2 hR hP, eT]; rfl
              have := padd_inj h2 N hR (show OnC a b none from trivial) hP q
              cases this
            · exact e4 (by rw [padd_eq, if_pos ⟨rfl, h⟩])
          exact as_gen h2 hP hP hR eS eT n1 n2
theorem as_dbl {a b : F} (h2 : (2 : F) ≠ 0) (N : NoSing a b) {P R : Pt F} (hP : OnC a b P) (hR : OnC a b R) : padd a (padd a P P) R = padd a P (padd a P R) := by
  by_cases hn : padd a P P = R
  · subst hn
    have nP := on_neg' hP
    have hS := hR
    generalize eS : padd a P P = S at *
    -- S + -P = P
    have c0 : padd a S (pneg P) = P := by rw [← eS]; exact padd_cancel h2 N hP hP
    have key : padd a (padd a S S) (pneg P) = padd a S P := by
      by_cases h : padd a S S = pneg P
      · rw [h, ← pneg_padd h2 hP hP, eS]
        have c1 := padd_cancel h2 N hS hS
        rw [h] at c1
        have c1 := congrArg pneg c1
        rw [pneg_padd h2 nP (on_neg' hS), pneg_pneg, pneg_pneg, padd_comm h2 hP hS] at c1
        exact c1.symm
      · rw [as_dbl0 h2 N hS nP h, c0]
    have c2 := padd_cancel h2 N (padd_on h2 hS hS) nP
    rw [key, pneg_pneg] at c2
    rw [← c2, padd_comm h2 hP (padd_on h2 hP hS), padd_comm h2 hP hS]
  · exact as_dbl0 h2 N hP hR hn
theorem padd_assoc {a b : F} (h2 : (2 : F) ≠ 0) (N : NoSing a b) {P Q R : Pt F} (hP : OnC a b P) (hQ : OnC a b Q) (hR : OnC a b R) : padd a (padd a P Q) R = padd a P (padd a Q R) := by
  have nP := on_neg' hP
  have nQ := on_neg' hQ
  have nR := on_neg' hR
  have PQ := padd_on h2 hP hQ
  have QR := padd_on h2 hQ hR
  by_cases e1 : padd a P Q = none
  · have q := padd_none e1
    rw [e1, zero_padd, q, padd_comm h2 hP (padd_on h2 nP hR), padd_comm h2 nP hR]
    have := padd_cancel h2 N hR nP
    rw [pneg_pneg] at this
    exact this.symm
  by_cases e2 : padd a Q R = none
  · have q := padd_none e2
    rw [e2, padd_zero, q]
    exact padd_cancel h2 N hP hQ
  by_cases e3 : padd a (padd a P Q) R = none
  · have q := padd_none e3
    rw [e3, q, pneg_padd h2 hP hQ]
    have : padd a Q (padd a (pneg P) (pneg Q)) = pneg P := by
      rw [padd_comm h2 hQ (padd_on h2 nP nQ)]
      have := padd_cancel h2 N nP nQ
      rwa [pneg_pneg] at this
    rw [this, padd_neg]
  by_cases e4 : padd a P (padd a Q R) = none
  · have q := padd_none e4
    have : padd a P Q = pneg R := by
      have t : P = pneg (padd a Q R) := by rw [q, pneg_pneg]
      rw [t, pneg_padd h2 hQ hR, padd_comm h2 nQ nR]
      have := padd_cancel h2 N nR nQ
      rwa [pneg_pneg] at this
    rw [e4, this, neg_padd]
  by_cases d1 : P = Q
  · subst d1; exact as_dbl h2 N hP hR
  by_cases d2 : Q = R
  · subst d2
    have := as_dbl h2 N hQ hP
    rw [padd_comm h2 hP (padd_on h2 hQ hQ), this, padd_comm h2 (padd_on h2 hP hQ) hQ, padd_comm h2 hP hQ]
  by_cases d3 : padd a P Q = R
  · rw [d3]
    -- (R + R) + -P = R + Q
    have t := as_dbl h2 N hR nP
    have u : padd a R (pneg P) = Q := by
      rw [← d3, padd_comm h2 hP hQ]; exact padd_cancel h2 N hQ hP
    rw [u] at t
    have c := padd_cancel h2 N (padd_on h2 hR hR) nP
    rw [t, pneg_pneg] at c
    rw [← c, padd_comm h2 hP QR, padd_comm h2 hQ hR]
  by_cases d4 : P = padd a Q R
  · rw [← d4]
    have t := as_dbl h2 N hP nR
    have u : padd a P (pneg R) = Q := by
      rw [d4]; exact padd_cancel h2 N hQ hR
    rw [u] at t
    have c := padd_cancel h2 N (padd_on h2 hP hP) nR
    rw [t, pneg_pneg] at c
    exact c
  cases P with
  | none => rfl
  | some p =>
  cases R with
  | none => rw [padd_zero, padd_zero]
  | some r =>
  cases Q with
  | none => rw [padd_zero, zero_padd]
  | some q =>
    obtain ⟨x1, y1⟩ := p
    obtain ⟨x2, y2⟩ := q
    obtain ⟨x3, y3⟩ := r
    cases eS : padd a (some (x1, y1)) (some (x2, y2)) with
    | none => exact absurd eS e1
    | some s =>
      cases eT : padd a (some (x2, y2)) (some (x3, y3)) with
      | none => exact absurd eT e2
      | some t =>
        obtain ⟨x4, y4⟩ := s
        obtain ⟨x6, y6⟩ := t
        rw [eS] at e3 d3
        rw [eT] at e4 d4
        have o4 : OnC a b (some (x4, y4)) := by rw [← eS]; exact PQ
        have o6 : OnC a b (some (x6, y6)) := by rw [← eT]; exact QR
        have same : ∀ {x y y' : F}, OnC a b (some (x, y)) → OnC a b (some (x, y')) → y = y' ∨ y + y' = 0 := by
          intro x y y' p q
          have p : y * y = x * x * x + a * x + b := p
          have q : y' * y' = x * x * x + a * x + b := q
          have : (y - y') * (y + y') = 0 := by grind
          rcases f_dom this with h | h
          · exact .inl (by grind)
          · exact .inr h
        have n1 : x4 ≠ x3 := by
          intro z
          subst z
          rcases same o4 hR with h | h
          · subst h; exact d3 rfl
          · exact e3 (by rw [padd_eq, if_pos ⟨rfl, h⟩])
        have n2 : x1 ≠ x6 := by
          intro z
          subst z
          rcases same hP o6 with h | h
          · subst h; exact d4 rfl
          · exact e4 (by rw [padd_eq, if_pos ⟨rfl, h⟩])
        exact as_gen h2 hP hQ hR eS eT n1 n2
end
end Mi
set_option maxHeartbeats 1000000
namespace Mi
/-! ### the group of a short Weierstrass curve over residues -/
structure Cv where
  p : Nat
  a : Int
  b : Int
  pr : IsP p
  ge : 5 ≤ p
  a0 : 0 ≤ a
  a1 : a < p
  b0 : 0 ≤ b
  b1 : b < p
  ns : NoSing (zm p a) (zm p b)
instance (C : Cv) : Prm C.p := ⟨C.pr⟩
theorem Cv.two (C : Cv) : (2 : Zp C.p) ≠ 0 := z_ne_num 2 (by decide) (by have := C.ge; omega)
theorem Cv.three (C : Cv) : (3 : Zp C.p) ≠ 0 := z_ne_num 3 (by decide) (by have := C.ge; omega)
structure Cv.Pt (C : Cv) where
  v : Mi.Pt (Zp C.p)
  on : OnC (zm C.p C.a) (zm C.p C.b) v
theorem Cv.ext {C : Cv} {P Q : C.Pt} (h : P.v = Q.v) : P = Q := by cases P; cases Q; cases h; rfl
noncomputable instance (C : Cv) : Add C.Pt := ⟨fun P Q => ⟨padd (zm C.p C.a) P.v Q.v, padd_on C.two P.on Q.on⟩⟩
instance (C : Cv) : Zero C.Pt := ⟨⟨none, trivial⟩⟩
noncomputable instance (C : Cv) : Neg C.Pt := ⟨fun P => ⟨pneg P.v, on_neg' P.on⟩⟩
noncomputable instance (C : Cv) : Sub C.Pt := ⟨fun P Q => P + -Q⟩
noncomputable instance (C : Cv) : Lean.Grind.AddCommGroup C.Pt where
  add_zero := fun P => Cv.ext (padd_zero _ P.v)
  add_comm := fun P Q => Cv.ext (padd_comm C.two P.on Q.on)
  add_assoc := fun P Q R => Cv.ext (padd_assoc C.two C.ns P.on Q.on R.on)
  neg_add_cancel := fun P => Cv.ext (neg_padd _ P.v)
  sub_eq_add_neg := fun P Q => rfl
end Mi
set_option maxHeartbeats 4000000
namespace Mi
open PySem PySem.Spec L2
def topS (i : Nat) : Stmt := PySem.Challenge.pw_curveseal_k12_jacobian_coordinates.main.body.getD i (.Pass ⟨0, 0, 0, 0⟩)

structure O_Curve where
  f_prime : Int
  f_a : Int
  f_b : Int
instance : ToD O_Curve := ⟨fun x => .obj "Curve" ["prime", "a", "b"] [toD x.f_prime, toD x.f_a, toD x.f_b]⟩
abbrev s_bezout : Stmt := topS 11
theorem sc_bezout : FnScope ["a", "b", "first", "second", "times", "rest"] ["a", "b"] (defScope s_bezout) := ⟨rfl, rfl, rfl, by decide +kernel, rfl, by decide +kernel, by decide +kernel⟩
abbrev s_inverse : Stmt := topS 12
theorem sc_inverse : FnScope ["a", "modulus", "divisor", "factor", "_"] ["a", "modulus"] (defScope s_inverse) := ⟨rfl, rfl, rfl, by decide +kernel, rfl, by decide +kernel, by decide +kernel⟩
abbrev s_to_jacobian : Stmt := topS 15
theorem sc_to_jacobian : FnScope ["point"] ["point"] (defScope s_to_jacobian) := ⟨rfl, rfl, rfl, by decide +kernel, rfl, by decide +kernel, by decide +kernel⟩
abbrev s_from_jacobian : Stmt := topS 16
theorem sc_from_jacobian : FnScope ["curve", "triple", "x", "y", "z", "scale", "square"] ["curve", "triple"] (defScope s_from_jacobian) := ⟨rfl, rfl, rfl, by decide +kernel, rfl, by decide +kernel, by decide +kernel⟩
abbrev s_double_jacobian : Stmt := topS 17
theorem sc_double_jacobian : FnScope ["curve", "triple", "x", "y", "z", "p", "y_square", "s", "m", "x3", "y3"] ["curve", "triple"] (defScope s_double_jacobian) := ⟨rfl, rfl, rfl, by decide +kernel, rfl, by decide +kernel, by decide +kernel⟩
abbrev s_add_jacobian : Stmt := topS 18
theorem sc_add_jacobian : FnScope ["curve", "first", "second", "p", "u1", "s1", "u2", "s2", "h", "r", "h_square", "h_cube", "v", "x3", "y3"] ["curve", "first", "second"] (defScope s_add_jacobian) := ⟨rfl, rfl, rfl, by decide +kernel, rfl, by decide +kernel, by decide +kernel⟩
abbrev s_u_scaled : Stmt := topS 19
theorem sc_u_scaled : FnScope ["triple", "z", "prime", "square"] ["triple", "z", "prime"] (defScope s_u_scaled) := ⟨rfl, rfl, rfl, by decide +kernel, rfl, by decide +kernel, by decide +kernel⟩
abbrev s_same_point : Stmt := topS 20
theorem sc_same_point : FnScope ["curve", "first", "second"] ["curve", "first", "second"] (defScope s_same_point) := ⟨rfl, rfl, rfl, by decide +kernel, rfl, by decide +kernel, by decide +kernel⟩
abbrev s_Curve_init : Stmt := inClass (topS 22) 0
theorem sc_Curve_init : FnScope ["self", "prime", "a", "b"] ["self", "prime", "a", "b"] (defScope s_Curve_init) := ⟨rfl, rfl, rfl, by decide +kernel, rfl, by decide +kernel, by decide +kernel⟩
abbrev s_u_law_cell : Stmt := topS 24
theorem sc_u_law_cell : FnScope ["script", "k"] ["script", "k"] (defScope s_u_law_cell) := ⟨rfl, rfl, rfl, by decide +kernel, rfl, by decide +kernel, by decide +kernel⟩
abbrev s_u_law_is_integer : Stmt := topS 25
theorem sc_u_law_is_integer : FnScope ["actual"] ["actual"] (defScope s_u_law_is_integer) := ⟨rfl, rfl, rfl, by decide +kernel, rfl, by decide +kernel, by decide +kernel⟩
abbrev s_u_law_is_prime : Stmt := topS 26
theorem sc_u_law_is_prime : FnScope ["n", "divisor", "k"] ["n"] (defScope s_u_law_is_prime) := ⟨rfl, rfl, rfl, by decide +kernel, rfl, by decide +kernel, by decide +kernel⟩
abbrev s_u_law_prime : Stmt := topS 27
theorem sc_u_law_prime : FnScope ["cell", "least", "rest", "number", "k"] ["cell", "least"] (defScope s_u_law_prime) := ⟨rfl, rfl, rfl, by decide +kernel, rfl, by decide +kernel, by decide +kernel⟩
abbrev s_u_law_curve_prime : Stmt := topS 28
theorem sc_u_law_curve_prime : FnScope ["cell", "high", "great"] ["cell"] (defScope s_u_law_curve_prime) := ⟨rfl, rfl, rfl, by decide +kernel, rfl, by decide +kernel, by decide +kernel⟩
abbrev s_u_law_power : Stmt := topS 29
theorem sc_u_law_power : FnScope ["a", "exponent", "modulus", "result", "square", "k"] ["a", "exponent", "modulus"] (defScope s_u_law_power) := ⟨rfl, rfl, rfl, by decide +kernel, rfl, by decide +kernel, by decide +kernel⟩
abbrev s_u_law_inverse : Stmt := topS 30
theorem sc_u_law_inverse : FnScope ["a", "prime"] ["a", "prime"] (defScope s_u_law_inverse) := ⟨rfl, rfl, rfl, by decide +kernel, rfl, by decide +kernel, by decide +kernel⟩
abbrev s_u_law_residue : Stmt := topS 31
theorem sc_u_law_residue : FnScope ["cell", "prime", "rest"] ["cell", "prime"] (defScope s_u_law_residue) := ⟨rfl, rfl, rfl, by decide +kernel, rfl, by decide +kernel, by decide +kernel⟩
abbrev s_u_law_curve_and_points : Stmt := topS 32
theorem sc_u_law_curve_and_points : FnScope ["script", "at", "prime", "x1", "y1", "x2", "y2", "a", "b"] ["script", "at", "prime"] (defScope s_u_law_curve_and_points) := ⟨rfl, rfl, rfl, by decide +kernel, rfl, by decide +kernel, by decide +kernel⟩
abbrev s_u_law_add : Stmt := topS 33
theorem sc_u_law_add : FnScope ["prime", "a", "first", "second", "x1", "y1", "x2", "y2", "slope", "x3"] ["prime", "a", "first", "second"] (defScope s_u_law_add) := ⟨rfl, rfl, rfl, by decide +kernel, rfl, by decide +kernel, by decide +kernel⟩
abbrev s_u_law_singular : Stmt := topS 35
theorem sc_u_law_singular : FnScope ["prime", "a", "b"] ["prime", "a", "b"] (defScope s_u_law_singular) := ⟨rfl, rfl, rfl, by decide +kernel, rfl, by decide +kernel, by decide +kernel⟩
abbrev s_u_law_triple : Stmt := topS 36
theorem sc_u_law_triple : FnScope ["point", "scale", "prime", "cell"] ["point", "scale", "prime", "cell"] (defScope s_u_law_triple) := ⟨rfl, rfl, rfl, by decide +kernel, rfl, by decide +kernel, by decide +kernel⟩
abbrev s_u_law_double : Stmt := topS 37
theorem sc_u_law_double : FnScope ["prime", "a", "triple", "x", "y", "z", "s", "m", "x3"] ["prime", "a", "triple"] (defScope s_u_law_double) := ⟨rfl, rfl, rfl, by decide +kernel, rfl, by decide +kernel, by decide +kernel⟩
abbrev s_u_law_sum : Stmt := topS 38
theorem sc_u_law_sum : FnScope ["prime", "a", "first", "second", "x1", "y1", "z1", "x2", "y2", "z2", "u1", "u2", "s1", "s2", "h", "r", "x3"] ["prime", "a", "first", "second"] (defScope s_u_law_sum) := ⟨rfl, rfl, rfl, by decide +kernel, rfl, by decide +kernel, by decide +kernel⟩
abbrev s_u_law_is_triple : Stmt := topS 39
theorem sc_u_law_is_triple : FnScope ["actual", "due", "number"] ["actual", "due"] (defScope s_u_law_is_triple) := ⟨rfl, rfl, rfl, by decide +kernel, rfl, by decide +kernel, by decide +kernel⟩
abbrev s_law : Stmt := topS 40
theorem sc_law : FnScope ["script", "prime", "a", "b", "first", "second", "curve", "points", "one", "other", "scales", "left", "right", "twice", "total", "same", "k"] ["script"] (defScope s_law) := ⟨rfl, rfl, rfl, by decide +kernel, rfl, by decide +kernel, by decide +kernel⟩
def errs : List Str := ["CurveError", "OutOfRange", "NoInverse", "Refused"]
def ancE : List (Str × List Str) := [("CurveError", ["CurveError"]), ("OutOfRange", ["OutOfRange", "CurveError"]), ("NoInverse", ["NoInverse", "CurveError"]), ("Refused", ["Refused", "CurveError"])]
def subE (c d : Str) : Bool := match ancE.lookup c with | some l => decide (d ∈ l) | none => false
def k_INFINITY : (T3 Int Int Int) := (T3.mk (1 : Int) (1 : Int) (0 : Int))
abbrev FnP (K : PySem.W.Frag) (x q : Str) (st : Stmt) (f : Addr) (fd : FuncData) : Prop := FunD K x q (defArgs st) (defBody st) (defScope st) [] [] f fd
structure Facts (K : PySem.W.Frag) (mg : Str → Option Value) : Prop where
  d_bezout : ∃ fd, FnP K "bezout" "bezout" s_bezout (He.ga K "bezout") fd
  g_bezout : mg "bezout" = some (.ref (He.ga K "bezout"))
  d_inverse : ∃ fd, FnP K "inverse" "inverse" s_inverse (He.ga K "inverse") fd
  g_inverse : mg "inverse" = some (.ref (He.ga K "inverse"))
  d_to_jacobian : ∃ fd, FnP K "to_jacobian" "to_jacobian" s_to_jacobian (He.ga K "to_jacobian") fd
  g_to_jacobian : mg "to_jacobian" = some (.ref (He.ga K "to_jacobian"))
  d_from_jacobian : ∃ fd, FnP K "from_jacobian" "from_jacobian" s_from_jacobian (He.ga K "from_jacobian") fd
  g_from_jacobian : mg "from_jacobian" = some (.ref (He.ga K "from_jacobian"))
  d_double_jacobian : ∃ fd, FnP K "double_jacobian" "double_jacobian" s_double_jacobian (He.ga K "double_jacobian") fd
  g_double_jacobian : mg "double_jacobian" = some (.ref (He.ga K "double_jacobian"))
  d_add_jacobian : ∃ fd, FnP K "add_jacobian" "add_jacobian" s_add_jacobian (He.ga K "add_jacobian") fd
  g_add_jacobian : mg "add_jacobian" = some (.ref (He.ga K "add_jacobian"))
  d_u_scaled : ∃ fd, FnP K "_scaled" "_scaled" s_u_scaled (He.ga K "_scaled") fd
  g_u_scaled : mg "_scaled" = some (.ref (He.ga K "_scaled"))
  d_same_point : ∃ fd, FnP K "same_point" "same_point" s_same_point (He.ga K "same_point") fd
  g_same_point : mg "same_point" = some (.ref (He.ga K "same_point"))
  d_Curve_init : ∃ fd, FnP K "__init__" "Curve.__init__" s_Curve_init (He.ma K (He.ga K "Curve") "__init__") fd
  d_u_law_cell : ∃ fd, FnP K "_law_cell" "_law_cell" s_u_law_cell (He.ga K "_law_cell") fd
  g_u_law_cell : mg "_law_cell" = some (.ref (He.ga K "_law_cell"))
  d_u_law_is_integer : ∃ fd, FnP K "_law_is_integer" "_law_is_integer" s_u_law_is_integer (He.ga K "_law_is_integer") fd
  g_u_law_is_integer : mg "_law_is_integer" = some (.ref (He.ga K "_law_is_integer"))
  d_u_law_is_prime : ∃ fd, FnP K "_law_is_prime" "_law_is_prime" s_u_law_is_prime (He.ga K "_law_is_prime") fd
  g_u_law_is_prime : mg "_law_is_prime" = some (.ref (He.ga K "_law_is_prime"))
  d_u_law_prime : ∃ fd, FnP K "_law_prime" "_law_prime" s_u_law_prime (He.ga K "_law_prime") fd
  g_u_law_prime : mg "_law_prime" = some (.ref (He.ga K "_law_prime"))
  d_u_law_curve_prime : ∃ fd, FnP K "_law_curve_prime" "_law_curve_prime" s_u_law_curve_prime (He.ga K "_law_curve_prime") fd
  g_u_law_curve_prime : mg "_law_curve_prime" = some (.ref (He.ga K "_law_curve_prime"))
  d_u_law_power : ∃ fd, FnP K "_law_power" "_law_power" s_u_law_power (He.ga K "_law_power") fd
  g_u_law_power : mg "_law_power" = some (.ref (He.ga K "_law_power"))
  d_u_law_inverse : ∃ fd, FnP K "_law_inverse" "_law_inverse" s_u_law_inverse (He.ga K "_law_inverse") fd
  g_u_law_inverse : mg "_law_inverse" = some (.ref (He.ga K "_law_inverse"))
  d_u_law_residue : ∃ fd, FnP K "_law_residue" "_law_residue" s_u_law_residue (He.ga K "_law_residue") fd
  g_u_law_residue : mg "_law_residue" = some (.ref (He.ga K "_law_residue"))
  d_u_law_curve_and_points : ∃ fd, FnP K "_law_curve_and_points" "_law_curve_and_points" s_u_law_curve_and_points (He.ga K "_law_curve_and_points") fd
  g_u_law_curve_and_points : mg "_law_curve_and_points" = some (.ref (He.ga K "_law_curve_and_points"))
  d_u_law_add : ∃ fd, FnP K "_law_add" "_law_add" s_u_law_add (He.ga K "_law_add") fd
  g_u_law_add : mg "_law_add" = some (.ref (He.ga K "_law_add"))
  d_u_law_singular : ∃ fd, FnP K "_law_singular" "_law_singular" s_u_law_singular (He.ga K "_law_singular") fd
  g_u_law_singular : mg "_law_singular" = some (.ref (He.ga K "_law_singular"))
  d_u_law_triple : ∃ fd, FnP K "_law_triple" "_law_triple" s_u_law_triple (He.ga K "_law_triple") fd
  g_u_law_triple : mg "_law_triple" = some (.ref (He.ga K "_law_triple"))
  d_u_law_double : ∃ fd, FnP K "_law_double" "_law_double" s_u_law_double (He.ga K "_law_double") fd
  g_u_law_double : mg "_law_double" = some (.ref (He.ga K "_law_double"))
  d_u_law_sum : ∃ fd, FnP K "_law_sum" "_law_sum" s_u_law_sum (He.ga K "_law_sum") fd
  g_u_law_sum : mg "_law_sum" = some (.ref (He.ga K "_law_sum"))
  d_u_law_is_triple : ∃ fd, FnP K "_law_is_triple" "_law_is_triple" s_u_law_is_triple (He.ga K "_law_is_triple") fd
  g_u_law_is_triple : mg "_law_is_triple" = some (.ref (He.ga K "_law_is_triple"))
  d_law : ∃ fd, FnP K "law" "law" s_law (He.ga K "law") fd
  g_law : mg "law" = some (.ref (He.ga K "law"))
  g_Curve : mg "Curve" = some (.ref (He.ga K "Curve"))
  cl_Curve : L2.Cls K (He.ga K "Curve")
  nf_Curve_a : NoAttr K (He.ga K "Curve") "a"
  nf_Curve_b : NoAttr K (He.ga K "Curve") "b"
  nf_Curve_prime : NoAttr K (He.ga K "Curve") "prime"
  mk_Curve : Mk K (He.ga K "Curve") (He.ma K (He.ga K "Curve") "__init__")
  g_CurveError : mg "CurveError" = some (.ref (He.ga K "CurveError"))
  g_OutOfRange : mg "OutOfRange" = some (.ref (He.ga K "OutOfRange"))
  g_NoInverse : mg "NoInverse" = some (.ref (He.ga K "NoInverse"))
  g_Refused : mg "Refused" = some (.ref (He.ga K "Refused"))
  x_NoInverse : PySem.W.excIn K (He.ga K "NoInverse") He.veBase "ValueError.__new__" = true
  k_NoInverse : PySem.W.keepIn K (.ref (He.ga K "NoInverse")) = true
  b_NoInverse : PySem.W.subIn K (.ref (He.ga K "NoInverse")) (.type "BaseException") = some true
  t_NoInverse : PySem.W.typeIn K (.ref (He.ga K "NoInverse")) = some (.type "type")
  x_OutOfRange : PySem.W.excIn K (He.ga K "OutOfRange") He.veBase "ValueError.__new__" = true
  k_OutOfRange : PySem.W.keepIn K (.ref (He.ga K "OutOfRange")) = true
  b_OutOfRange : PySem.W.subIn K (.ref (He.ga K "OutOfRange")) (.type "BaseException") = some true
  t_OutOfRange : PySem.W.typeIn K (.ref (He.ga K "OutOfRange")) = some (.type "type")
  x_Refused : PySem.W.excIn K (He.ga K "Refused") He.veBase "ValueError.__new__" = true
  k_Refused : PySem.W.keepIn K (.ref (He.ga K "Refused")) = true
  b_Refused : PySem.W.subIn K (.ref (He.ga K "Refused")) (.type "BaseException") = some true
  t_Refused : PySem.W.typeIn K (.ref (He.ga K "Refused")) = some (.type "type")
  n_abs : mg "abs" = none
  n_bool : mg "bool" = none
  n_int : mg "int" = none
  n_isinstance : mg "isinstance" = none
  n_len : mg "len" = none
  n_range : mg "range" = none
  n_tuple : mg "tuple" = none
  c_INFINITY : ConF K mg "INFINITY" (toD k_INFINITY)
  cls : Cls K errs subE
noncomputable def m_bezout_w1 (k1 : (T3 Int Int Int) × (T3 Int Int Int) → Res (T3 Int Int Int)) : Nat → (T3 Int Int Int) × (T3 Int Int Int) → Res (T3 Int Int Int)
  | 0, _ => Res.stuck
  | n1 + 1, (first_, second_) => ((((Res.ok second_)).bind fun (t15 : (T3 Int Int Int)) => Res.ok t15.a).bind fun (t16 : Int) => ((Res.ok (0 : Int))).bind fun (t17 : Int) => Res.ok (!decide (t16 = t17))).bind fun b => cond b   (((((Res.ok first_)).bind fun (t18 : (T3 Int Int Int)) => Res.ok t18.a).bind fun (t20 : Int) => (((Res.ok second_)).bind fun (t19 : (T3 Int Int Int)) => Res.ok t19.a).bind fun (t21 : Int) => Res.need (CDivW t20 t21) (Res.ok (t20 / t21))).bind fun (times_ : Int) =>   ((((((Res.ok first_)).bind fun (t22 : (T3 Int Int Int)) => Res.ok t22.a).bind fun (t26 : Int) => (((Res.ok times_)).bind fun (t24 : Int) => (((Res.ok second_)).bind fun (t23 : (T3 Int Int Int)) => Res.ok t23.a).bind fun (t25 : Int) => Res.need (CMulX t24 t25) (Res.ok (t24 * t25))).bind fun (t27 : Int) => Res.ok (t26 - t27)).bind fun a41 => (((((Res.ok first_)).bind fun (t28 : (T3 Int Int Int)) => Res.ok t28.b).bind fun (t32 : Int) => (((Res.ok times_)).bind fun (t30 : Int) => (((Res.ok second_)).bind fun (t29 : (T3 Int Int Int)) => Res.ok t29.b).bind fun (t31 : Int) => Res.need (CMulX t30 t31) (Res.ok (t30 * t31))).bind fun (t33 : Int) => Res.ok (t32 - t33)).bind fun a43 => (((((Res.ok first_)).bind fun (t34 : (T3 Int Int Int)) => Res.ok t34.c).bind fun (t38 : Int) => (((Res.ok times_)).bind fun (t36 : Int) => (((Res.ok second_)).bind fun (t35 : (T3 Int Int Int)) => Res.ok t35.c).bind fun (t37 : Int) => Res.need (CMulX t36 t37) (Res.ok (t36 * t37))).bind fun (t39 : Int) => Res.ok (t38 - t39)).bind fun a45 => (Res.ok ()).bind fun a46 => Res.ok (a45, a46)).bind fun a44 => Res.ok (a43, a44)).bind fun a42 => Res.ok (a41, a42)).bind fun p40 => Res.ok (T3.mk p40.1 p40.2.1 p40.2.2.1)).bind fun (rest_ : (T3 Int Int Int)) =>   ((Res.ok second_)).bind fun (p47 : (T3 Int Int Int)) => ((Res.ok rest_)).bind fun (p48 : (T3 Int Int Int)) =>   (fun (first_ : (T3 Int Int Int)) (second_ : (T3 Int Int Int)) => m_bezout_w1 k1 n1 (first_, second_)) p47 p48)   (k1 (first_, second_))
noncomputable def m_bezout_k3 : (T3 Int Int Int) × (T3 Int Int Int) → Res (T3 Int Int Int) := fun (first_, second_) =>   ((((Res.ok first_)).bind fun (t49 : (T3 Int Int Int)) => Res.ok t49.a).bind fun (t50 : Int) => ((Res.ok (0 : Int))).bind fun (t51 : Int) => Res.ok (decide (t50 < t51))).bind fun b => cond b   ((((((Res.ok first_)).bind fun (t52 : (T3 Int Int Int)) => Res.ok t52.a).bind fun (t53 : Int) => Res.ok (-t53)).bind fun a59 => (((((Res.ok first_)).bind fun (t54 : (T3 Int Int Int)) => Res.ok t54.b).bind fun (t55 : Int) => Res.ok (-t55)).bind fun a61 => (((((Res.ok first_)).bind fun (t56 : (T3 Int Int Int)) => Res.ok t56.c).bind fun (t57 : Int) => Res.ok (-t57)).bind fun a63 => (Res.ok ()).bind fun a64 => Res.ok (a63, a64)).bind fun a62 => Res.ok (a61, a62)).bind fun a60 => Res.ok (a59, a60)).bind fun p58 => Res.ok (T3.mk p58.1 p58.2.1 p58.2.2.1))   ((Res.ok first_))
noncomputable def m_bezout (a_ : Int) (b_ : Int) : Res (T3 Int Int Int) :=
  ((((Res.ok a_)).bind fun a2 => (((Res.ok (1 : Int))).bind fun a4 => (((Res.ok (0 : Int))).bind fun a6 => (Res.ok ()).bind fun a7 => Res.ok (a6, a7)).bind fun a5 => Res.ok (a4, a5)).bind fun a3 => Res.ok (a2, a3)).bind fun p1 => Res.ok (T3.mk p1.1 p1.2.1 p1.2.2.1)).bind fun (p65 : (T3 Int Int Int)) => ((((Res.ok b_)).bind fun a9 => (((Res.ok (0 : Int))).bind fun a11 => (((Res.ok (1 : Int))).bind fun a13 => (Res.ok ()).bind fun a14 => Res.ok (a13, a14)).bind fun a12 => Res.ok (a11, a12)).bind fun a10 => Res.ok (a9, a10)).bind fun p8 => Res.ok (T3.mk p8.1 p8.2.1 p8.2.2.1)).bind fun (p66 : (T3 Int Int Int)) =>   (fun (first_ : (T3 Int Int Int)) (second_ : (T3 Int Int Int)) => m_bezout_w1 (m_bezout_k3) (b_.natAbs + 1) (first_, second_)) p65 p66
theorem ok_bezout {P : Program} {w : World} {K : PySem.W.Frag} {mg : Str → Option Value} {base : Heap} (T : Facts K mg) {fd : FuncData} (F : FnP K "bezout" "bezout" s_bezout (He.ga K "bezout") fd) :
    FnOk P w K mg base (L2.CX P w) 1 (He.ga K "bezout") fd ["a", "b"] (spM K (fun (p : Int × Int × Unit) => m_bezout p.1 p.2.1)) := by
  refine fn_ok F sc_bezout (fun y => rfl) (fun cdv A outer s H E hr => ?_)
  refine ⟨_, (pss_cons (ps_par (i := 2) (j := 3) (by rfl) sc_bezout.nd rfl rfl (by decide) rfl rfl (pa_cons (pe_tup (pa_cons (pv 0) (pa_cons pe_int (pa_cons pe_int pa_nil)))) (pa_cons (pe_tup (pa_cons (pv 1) (pa_cons pe_int (pa_cons pe_int pa_nil)))) pa_nil)) (by rfl)) (pss_cons (ps_while (passes_of rfl) (pt_cmpR op_ne (pe_ix (cr_ixT rfl) (pv 3) pe_int (fun _ _ => rfl)) pe_int (nomark _)) (pss_cons (ps_set (i := 4) sc_bezout.nd rfl (Or.inl rfl) (pe_op op_fdivW (pe_ix (cr_ixT rfl) (pv 2) pe_int (fun _ _ => rfl)) (pe_ix (cr_ixT rfl) (pv 3) pe_int (fun _ _ => rfl)))) (pss_cons (ps_set (i := 5) sc_bezout.nd rfl (Or.inl rfl) (pe_tup (pa_cons (pe_op op_sub (pe_ix (cr_ixT rfl) (pv 2) pe_int (fun _ _ => rfl)) (pe_op op_mulX (pv 4) (pe_ix (cr_ixT rfl) (pv 3) pe_int (fun _ _ => rfl)))) (pa_cons (pe_op op_sub (pe_ix (cr_ixT rfl) (pv 2) pe_int (fun _ _ => rfl)) (pe_op op_mulX (pv 4) (pe_ix (cr_ixT rfl) (pv 3) pe_int (fun _ _ => rfl)))) (pa_cons (pe_op op_sub (pe_ix (cr_ixT rfl) (pv 2) pe_int (fun _ _ => rfl)) (pe_op op_mulX (pv 4) (pe_ix (cr_ixT rfl) (pv 3) pe_int (fun _ _ => rfl)))) pa_nil))))) (pss_one (ps_par (i := 2) (j := 3) (by rfl) sc_bezout.nd rfl rfl (by decide) rfl rfl (pa_cons (pv 3) (pa_cons (pv 5) pa_nil)) (by rfl)))))) (pss_cons (ps_if (pt_cmpR op_lt (pe_ix (cr_ixT rfl) (pv 2) pe_int (fun _ _ => rfl)) pe_int (nomark _)) (pss_one (ps_ret (pe_tup (pa_cons (pe_un un_neg (pe_ix (cr_ixT rfl) (pv 2) pe_int (fun _ _ => rfl))) (pa_cons (pe_un un_neg (pe_ix (cr_ixT rfl) (pv 2) pe_int (fun _ _ => rfl))) (pa_cons (pe_un un_neg (pe_ix (cr_ixT rfl) (pv 2) pe_int (fun _ _ => rfl))) pa_nil)))))) pss_nil) (pss_one (ps_ret (pv 2)))))), ?_⟩
  rintro ⟨a_, b_, ⟨⟩⟩ F0 H0 Q KP L
  show Blk K F0 H0 KP _ [some (.im (toD a_)), some (.im (toD b_)), none, none, none, none] (m_bezout a_ b_)
  unfold m_bezout
  have ha_ := ((ev_tup (f := (fun y => T3.mk y.1 y.2.1 y.2.2.1)) (ea_cons (ev_var (i := 0) (x := a_) rfl) (ea_cons (ev_int (i := 1)) (ea_cons (ev_int (i := 0)) ea_nil))) (fun _ => rfl) (fun _ => by show 3 ≤ 100000; decide)) : EvX K (W0 E) [some (.im (toD a_)), some (.im (toD b_)), none, none, none, none] _ _)
  have hb_ := ((ev_tup (f := (fun y => T3.mk y.1 y.2.1 y.2.2.1)) (ea_cons (ev_var (i := 1) (x := b_) rfl) (ea_cons (ev_int (i := 0)) (ea_cons (ev_int (i := 1)) ea_nil))) (fun _ => rfl) (fun _ => by show 3 ≤ 100000; decide)) : EvX K (W0 E) [some (.im (toD a_)), some (.im (toD b_)), none, none, none, none] _ _)
  refine blk_seq (blk_par (i := 2) (j := 3) L trivial ha_ hb_ fun first_ second_ => ?_)
  show Blk _ _ _ _ _ [some (.im (toD a_)), some (.im (toD b_)), some (.im (toD first_)), some (.im (toD second_)), none, none] _
  try refine Blk.nx ?_
  refine blk_seq (blk_while (S := (T3 Int Int Int) × (T3 Int Int Int)) (m_bezout_w1 (m_bezout_k3)) (fun (s : (T3 Int Int Int) × (T3 Int Int Int)) => match s with | (first_, second_) => (((Res.ok second_)).bind fun (t15 : (T3 Int Int Int)) => Res.ok t15.a).bind fun (t16 : Int) => ((Res.ok (0 : Int))).bind fun (t17 : Int) => Res.ok (!decide (t16 = t17))) (fun n s => match s with | (first_, second_) => ((((Res.ok first_)).bind fun (t18 : (T3 Int Int Int)) => Res.ok t18.a).bind fun (t20 : Int) => (((Res.ok second_)).bind fun (t19 : (T3 Int Int Int)) => Res.ok t19.a).bind fun (t21 : Int) => Res.need (CDivW t20 t21) (Res.ok (t20 / t21))).bind fun (times_ : Int) =>   ((((((Res.ok first_)).bind fun (t22 : (T3 Int Int Int)) => Res.ok t22.a).bind fun (t26 : Int) => (((Res.ok times_)).bind fun (t24 : Int) => (((Res.ok second_)).bind fun (t23 : (T3 Int Int Int)) => Res.ok t23.a).bind fun (t25 : Int) => Res.need (CMulX t24 t25) (Res.ok (t24 * t25))).bind fun (t27 : Int) => Res.ok (t26 - t27)).bind fun a41 => (((((Res.ok first_)).bind fun (t28 : (T3 Int Int Int)) => Res.ok t28.b).bind fun (t32 : Int) => (((Res.ok times_)).bind fun (t30 : Int) => (((Res.ok second_)).bind fun (t29 : (T3 Int Int Int)) => Res.ok t29.b).bind fun (t31 : Int) => Res.need (CMulX t30 t31) (Res.ok (t30 * t31))).bind fun (t33 : Int) => Res.ok (t32 - t33)).bind fun a43 => (((((Res.ok first_)).bind fun (t34 : (T3 Int Int Int)) => Res.ok t34.c).bind fun (t38 : Int) => (((Res.ok times_)).bind fun (t36 : Int) => (((Res.ok second_)).bind fun (t35 : (T3 Int Int Int)) => Res.ok t35.c).bind fun (t37 : Int) => Res.need (CMulX t36 t37) (Res.ok (t36 * t37))).bind fun (t39 : Int) => Res.ok (t38 - t39)).bind fun a45 => (Res.ok ()).bind fun a46 => Res.ok (a45, a46)).bind fun a44 => Res.ok (a43, a44)).bind fun a42 => Res.ok (a41, a42)).bind fun p40 => Res.ok (T3.mk p40.1 p40.2.1 p40.2.2.1)).bind fun (rest_ : (T3 Int Int Int)) =>   ((Res.ok second_)).bind fun (p47 : (T3 Int Int Int)) => ((Res.ok rest_)).bind fun (p48 : (T3 Int Int Int)) =>   (fun (first_ : (T3 Int Int Int)) (second_ : (T3 Int Int Int)) => m_bezout_w1 (m_bezout_k3) n (first_, second_)) p47 p48) (m_bezout_k3) (fun (first_, second_) => [some (.im (toD a_)), some (.im (toD b_)), some (.im (toD first_)), some (.im (toD second_)), none, none]) (first_, second_) (b_.natAbs + 1) L ?_ (.same (.same (.same (.same (.same (.same .nil)))))) ?_ (fun ⟨_, _⟩ => rfl) (fun _ ⟨_, _⟩ => rfl) ?_ ?_)
  · rintro ⟨first_, second_⟩
    exact trivial
  · rintro ⟨first_, second_⟩
    exact ((et_test (ev_op opx_neI mild_ok (ev_ixTC (i := 0) (f := fun x => x.a) (ev_var (i := 3) (x := second_) rfl) (fun x => ⟨_, rfl, rfl⟩)) (ev_int (i := 0)))) : EvT K (W0 E) [some (.im (toD a_)), some (.im (toD b_)), some (.im (toD first_)), some (.im (toD second_)), none, none] _ _)
  · intro n1 s_ N_ hN1
    obtain ⟨first_, second_⟩ := s_
    show Blk _ _ _ _ _ [some (.im (toD a_)), some (.im (toD b_)), some (.im (toD first_)), some (.im (toD second_)), none, none] _
    have hs_ := ((ev_op (opx_I (C := CDivW) (g := fun i j => i / j)) mild_need (ev_ixTC (i := 0) (f := fun x => x.a) (ev_var (i := 2) (x := first_) rfl) (fun x => ⟨_, rfl, rfl⟩)) (ev_ixTC (i := 0) (f := fun x => x.a) (ev_var (i := 3) (x := second_) rfl) (fun x => ⟨_, rfl, rfl⟩))) : EvX K (W0 E) [some (.im (toD a_)), some (.im (toD b_)), some (.im (toD first_)), some (.im (toD second_)), none, none] _ _)
    refine blk_seq (blk_set (i := 4) L trivial hs_ fun times_ => ?_)
    show Blk _ _ _ _ _ [some (.im (toD a_)), some (.im (toD b_)), some (.im (toD first_)), some (.im (toD second_)), some (.im (toD times_)), none] _
    try refine Blk.nx ?_
    have hs_ := ((ev_tup (f := (fun y => T3.mk y.1 y.2.1 y.2.2.1)) (ea_cons (ev_op (opx_I0 (g := fun i j => i - j)) mild_ok (ev_ixTC (i := 0) (f := fun x => x.a) (ev_var (i := 2) (x := first_) rfl) (fun x => ⟨_, rfl, rfl⟩)) (ev_op (opx_I (C := CMulX) (g := fun i j => i * j)) mild_need (ev_var (i := 4) (x := times_) rfl) (ev_ixTC (i := 0) (f := fun x => x.a) (ev_var (i := 3) (x := second_) rfl) (fun x => ⟨_, rfl, rfl⟩)))) (ea_cons (ev_op (opx_I0 (g := fun i j => i - j)) mild_ok (ev_ixTC (i := 1) (f := fun x => x.b) (ev_var (i := 2) (x := first_) rfl) (fun x => ⟨_, rfl, rfl⟩)) (ev_op (opx_I (C := CMulX) (g := fun i j => i * j)) mild_need (ev_var (i := 4) (x := times_) rfl) (ev_ixTC (i := 1) (f := fun x => x.b) (ev_var (i := 3) (x := second_) rfl) (fun x => ⟨_, rfl, rfl⟩)))) (ea_cons (ev_op (opx_I0 (g := fun i j => i - j)) mild_ok (ev_ixTC (i := 2) (f := fun x => x.c) (ev_var (i := 2) (x := first_) rfl) (fun x => ⟨_, rfl, rfl⟩)) (ev_op (opx_I (C := CMulX) (g := fun i j => i * j)) mild_need (ev_var (i := 4) (x := times_) rfl) (ev_ixTC (i := 2) (f := fun x => x.c) (ev_var (i := 3) (x := second_) rfl) (fun x => ⟨_, rfl, rfl⟩)))) ea_nil))) (fun _ => rfl) (fun _ => by show 3 ≤ 100000; decide)) : EvX K (W0 E) [some (.im (toD a_)), some (.im (toD b_)), some (.im (toD first_)), some (.im (toD second_)), some (.im (toD times_)), none] _ _)
    refine blk_seq (blk_set (i := 5) L trivial hs_ fun rest_ => ?_)
    show Blk _ _ _ _ _ [some (.im (toD a_)), some (.im (toD b_)), some (.im (toD first_)), some (.im (toD second_)), some (.im (toD times_)), some (.im (toD rest_))] _
    try refine Blk.nx ?_
    have ha_ := ((ev_var (i := 3) (x := second_) rfl) : EvX K (W0 E) [some (.im (toD a_)), some (.im (toD b_)), some (.im (toD first_)), some (.im (toD second_)), some (.im (toD times_)), some (.im (toD rest_))] _ _)
    have hb_ := ((ev_var (i := 5) (x := rest_) rfl) : EvX K (W0 E) [some (.im (toD a_)), some (.im (toD b_)), some (.im (toD first_)), some (.im (toD second_)), some (.im (toD times_)), some (.im (toD rest_))] _ _)
    refine blk_par (i := 2) (j := 3) L trivial ha_ hb_ fun first_ second_ => ?_
    show Blk _ _ _ _ _ [some (.im (toD a_)), some (.im (toD b_)), some (.im (toD first_)), some (.im (toD second_)), some (.im (toD times_)), some (.im (toD rest_))] _
    try refine Blk.nx ?_
    exact (hN1 (first_, second_)).weak (.same (.same (.same (.same (.drop (.drop .nil))))))
  · rintro ⟨first_, second_⟩
    show Blk _ _ _ _ _ [some (.im (toD a_)), some (.im (toD b_)), some (.im (toD first_)), some (.im (toD second_)), none, none] ((m_bezout_k3) (first_, second_))
    unfold m_bezout_k3
    try refine Blk.nx ?_
    have ht_ := ((et_test (ev_op (opx_B0 (g := fun i j => decide (i < j))) mild_ok (ev_ixTC (i := 0) (f := fun x => x.a) (ev_var (i := 2) (x := first_) rfl) (fun x => ⟨_, rfl, rfl⟩)) (ev_int (i := 0)))) : EvT K (W0 E) [some (.im (toD a_)), some (.im (toD b_)), some (.im (toD first_)), some (.im (toD second_)), none, none] _ _)
    refine blk_seq (blk_if2 L trivial ht_ ?_ ?_)
    · have hr_ := ((ev_tup (f := (fun y => T3.mk y.1 y.2.1 y.2.2.1)) (ea_cons (ev_un (g := fun i => -i) (ev_ixTC (i := 0) (f := fun x => x.a) (ev_var (i := 2) (x := first_) rfl) (fun x => ⟨_, rfl, rfl⟩))) (ea_cons (ev_un (g := fun i => -i) (ev_ixTC (i := 1) (f := fun x => x.b) (ev_var (i := 2) (x := first_) rfl) (fun x => ⟨_, rfl, rfl⟩))) (ea_cons (ev_un (g := fun i => -i) (ev_ixTC (i := 2) (f := fun x => x.c) (ev_var (i := 2) (x := first_) rfl) (fun x => ⟨_, rfl, rfl⟩))) ea_nil))) (fun _ => rfl) (fun _ => by show 3 ≤ 100000; decide)) : EvX K (W0 E) [some (.im (toD a_)), some (.im (toD b_)), some (.im (toD first_)), some (.im (toD second_)), none, none] _ _)
      exact blk_ret L trivial hr_
    · refine blk_nil ?_
      try refine Blk.nx ?_
      have hr_ := ((ev_var (i := 2) (x := first_) rfl) : EvX K (W0 E) [some (.im (toD a_)), some (.im (toD b_)), some (.im (toD first_)), some (.im (toD second_)), none, none] _ _)
      exact blk_ret L trivial hr_
noncomputable def m_inverse (a_ : Int) (modulus_ : Int) : Res Int :=
  (((((Res.ok a_)).bind fun (t67 : Int) => ((Res.ok modulus_)).bind fun (t68 : Int) => Res.need (0 < t68) (Res.ok (t67 % t68))).bind fun a70 => (((Res.ok modulus_)).bind fun a72 => (Res.ok ()).bind fun a73 => Res.ok (a72, a73)).bind fun a71 => Res.ok (a70, a71)).bind fun p69 => m_bezout p69.1 p69.2.1).bind fun (u74 : (T3 Int Int Int)) =>   (fun (divisor_ : Int) (factor_ : Int) (u__ : Int) => (((Res.ok divisor_)).bind fun (t75 : Int) => ((Res.ok (1 : Int))).bind fun (t76 : Int) => Res.ok (!decide (t75 = t76))).bind fun b => cond b   (Res.exc "NoInverse")   (((Res.ok factor_)).bind fun (t77 : Int) => ((Res.ok modulus_)).bind fun (t78 : Int) => Res.need (0 < t78) (Res.ok (t77 % t78)))) u74.a u74.b u74.c
theorem ok_inverse {P : Program} {w : World} {K : PySem.W.Frag} {mg : Str → Option Value} {base : Heap} (T : Facts K mg) {fd : FuncData} (F : FnP K "inverse" "inverse" s_inverse (He.ga K "inverse") fd) :
    FnOk P w K mg base (L2.CX P w) 2 (He.ga K "inverse") fd ["a", "modulus"] (spM K (fun (p : Int × Int × Unit) => m_inverse p.1 p.2.1)) := by
  obtain ⟨fd_bezout, F_bezout⟩ := T.d_bezout
  have G_bezout := ok_bezout (P := P) (w := w) (base := base) T F_bezout
  have b_bezout : Binds K fd_bezout ["a", "b"] [] := F_bezout.bindsN fun _ _ _ _ _ _ us hl => match us, hl with | [_, _], _ => rfl
  refine fn_ok F sc_inverse (fun y => rfl) (fun cdv A outer s H E hr => ?_)
  refine ⟨_, (pss_cons (ps_asg (pe_callS G_bezout (hr.mono (by decide)) rfl T.g_bezout F_bezout.kp b_bezout (fun σ => passAt (takes_of rfl rfl rfl rfl) σ) (pa_cons (pe_op op_mod (pv 0) (pv 1)) (pa_cons (pv 1) pa_nil))) (pg_tup rfl (pgs_cons (pg_name (i := 2) sc_inverse.nd rfl (Or.inl rfl)) (pgs_cons (pg_name (i := 3) sc_inverse.nd rfl (Or.inl rfl)) (pgs_cons (pg_name (i := 4) sc_inverse.nd rfl (Or.inl rfl)) pgs_nil))))) (pss_cons (ps_if (pt_cmpR op_ne (pv 2) pe_int (nomark _)) (pss_one (ps_raise rfl (takes_of rfl rfl rfl rfl) (pmk_own PySem.F.excBase_ValueError T.x_NoInverse T.g_NoInverse T.k_NoInverse (raises_own T.b_NoInverse T.t_NoInverse) rfl))) pss_nil) (pss_one (ps_ret (pe_op op_mod (pv 3) (pv 1)))))), ?_⟩
  rintro ⟨a_, modulus_, ⟨⟩⟩ F0 H0 Q KP L
  show Blk K F0 H0 KP _ [some (.im (toD a_)), some (.im (toD modulus_)), none, none, none] (m_inverse a_ modulus_)
  unfold m_inverse
  have hs_ := ((ev_call (f := (fun (p : Int × Int × Unit) => m_bezout p.1 p.2.1)) (ea_cons (ev_op (opx_I (C := (fun _ j => 0 < j)) (g := fun i j => i % j)) mild_need (ev_var (i := 0) (x := a_) rfl) (ev_var (i := 1) (x := modulus_) rfl)) (ea_cons (ev_var (i := 1) (x := modulus_) rfl) ea_nil))) : EvX K (W0 E) [some (.im (toD a_)), some (.im (toD modulus_)), none, none, none] _ _)
  refine blk_seq (blk_asg L trivial hs_ (fun _ => (gx_tup (gxs_cons gx_name (gxs_cons gx_name (gxs_cons gx_name gxs_nil))) rfl)) fun u74 => ?_)
  show Blk _ _ _ _ _ [some (.im (toD a_)), some (.im (toD modulus_)), some (.im (toD u74.a)), some (.im (toD u74.b)), some (.im (toD u74.c))] ((fun (divisor_ : Int) (factor_ : Int) (u__ : Int) => _) u74.a u74.b u74.c)
  generalize u74.a = divisor_
  generalize u74.b = factor_
  generalize u74.c = u__
  show Blk _ _ _ _ _ [some (.im (toD a_)), some (.im (toD modulus_)), some (.im (toD divisor_)), some (.im (toD factor_)), some (.im (toD u__))] _
  try refine Blk.nx ?_
  have ht_ := ((et_test (ev_op opx_neI mild_ok (ev_var (i := 2) (x := divisor_) rfl) (ev_int (i := 1)))) : EvT K (W0 E) [some (.im (toD a_)), some (.im (toD modulus_)), some (.im (toD divisor_)), some (.im (toD factor_)), some (.im (toD u__))] _ _)
  refine blk_seq (blk_if2 L trivial ht_ ?_ ?_)
  · exact blk_raise L trivial
  · refine blk_nil ?_
    try refine Blk.nx ?_
    have hr_ := ((ev_op (opx_I (C := (fun _ j => 0 < j)) (g := fun i j => i % j)) mild_need (ev_var (i := 3) (x := factor_) rfl) (ev_var (i := 1) (x := modulus_) rfl)) : EvX K (W0 E) [some (.im (toD a_)), some (.im (toD modulus_)), some (.im (toD divisor_)), some (.im (toD factor_)), some (.im (toD u__))] _ _)
    exact blk_ret L trivial hr_
noncomputable def m_to_jacobian (point_ : (Option (T2 Int Int))) : Res (T3 Int Int Int) :=
  (((Res.ok point_)).bind fun (t79 : (Option (T2 Int Int))) => ((Res.ok ())).bind fun (t80 : Unit) => Res.ok (toD t79).isNon).bind fun b => cond b   ((Res.ok k_INFINITY))   ((((((Res.ok point_)).bind optGet).bind fun (t81 : (T2 Int Int)) => Res.ok t81.a).bind fun a84 => (((((Res.ok point_)).bind optGet).bind fun (t82 : (T2 Int Int)) => Res.ok t82.b).bind fun a86 => (((Res.ok (1 : Int))).bind fun a88 => (Res.ok ()).bind fun a89 => Res.ok (a88, a89)).bind fun a87 => Res.ok (a86, a87)).bind fun a85 => Res.ok (a84, a85)).bind fun p83 => Res.ok (T3.mk p83.1 p83.2.1 p83.2.2.1))
theorem ok_to_jacobian {P : Program} {w : World} {K : PySem.W.Frag} {mg : Str → Option Value} {base : Heap} (T : Facts K mg) {fd : FuncData} (F : FnP K "to_jacobian" "to_jacobian" s_to_jacobian (He.ga K "to_jacobian") fd) :
    FnOk P w K mg base (L2.CX P w) 1 (He.ga K "to_jacobian") fd ["point"] (spM K (fun (p : (Option (T2 Int Int)) × Unit) => m_to_jacobian p.1)) := by
  refine fn_ok F sc_to_jacobian (fun y => rfl) (fun cdv A outer s H E hr => ?_)
  refine ⟨_, (pss_cons (ps_if (pt_cmpR op_isN (pv 0) pe_non (nomark _)) (pss_one (ps_ret (pe_glob (v := T.c_INFINITY.v) rfl T.c_INFINITY.m T.c_INFINITY.r))) pss_nil) (pss_one (ps_ret (pe_tup (pa_cons (pe_ix (cr_ixT rfl) (pv 0) pe_int (fun _ _ => rfl)) (pa_cons (pe_ix (cr_ixT rfl) (pv 0) pe_int (fun _ _ => rfl)) (pa_cons pe_int pa_nil))))))), ?_⟩
  rintro ⟨point_, ⟨⟩⟩ F0 H0 Q KP L
  show Blk K F0 H0 KP _ [some (.im (toD point_))] (m_to_jacobian point_)
  unfold m_to_jacobian
  have ht_ := ((et_test (ev_op opx_isN mild_ok (ev_var (i := 0) (x := point_) rfl) ev_non)) : EvT K (W0 E) [some (.im (toD point_))] _ _)
  refine blk_seq (blk_if2 L trivial ht_ ?_ ?_)
  · have hr_ := ((ev_con T.c_INFINITY) : EvX K (W0 E) [some (.im (toD point_))] _ _)
    exact blk_ret L trivial hr_
  · refine blk_nil ?_
    try refine Blk.nx ?_
    have hr_ := ((ev_tup (f := (fun y => T3.mk y.1 y.2.1 y.2.2.1)) (ea_cons (ev_ixTC (i := 0) (f := fun x => x.a) (ev_castG (f := optGet) optGet_ok optGet_x (ev_var (i := 0) (x := point_) rfl)) (fun x => ⟨_, rfl, rfl⟩)) (ea_cons (ev_ixTC (i := 1) (f := fun x => x.b) (ev_castG (f := optGet) optGet_ok optGet_x (ev_var (i := 0) (x := point_) rfl)) (fun x => ⟨_, rfl, rfl⟩)) (ea_cons (ev_int (i := 1)) ea_nil))) (fun _ => rfl) (fun _ => by show 3 ≤ 100000; decide)) : EvX K (W0 E) [some (.im (toD point_))] _ _)
    exact blk_ret L trivial hr_
noncomputable def m_from_jacobian (curve_ : O_Curve) (triple_ : (T3 Int Int Int)) : Res (Option (T2 Int Int)) :=
  ((Res.ok triple_)).bind fun (u90 : (T3 Int Int Int)) =>   (fun (x_ : Int) (y_ : Int) (z_ : Int) => (((Res.ok z_)).bind fun (t91 : Int) => ((Res.ok (0 : Int))).bind fun (t92 : Int) => Res.ok (decide (t91 = t92))).bind fun b => cond b   ((Res.ok (none : (Option (T2 Int Int)))))   (((((Res.ok z_)).bind fun a95 => ((((Res.ok curve_)).bind fun (t93 : O_Curve) => Res.ok t93.f_prime).bind fun a97 => (Res.ok ()).bind fun a98 => Res.ok (a97, a98)).bind fun a96 => Res.ok (a95, a96)).bind fun p94 => m_inverse p94.1 p94.2.1).bind fun (scale_ : Int) =>   ((((Res.ok scale_)).bind fun (t99 : Int) => ((Res.ok scale_)).bind fun (t100 : Int) => Res.need (CMulX t99 t100) (Res.ok (t99 * t100))).bind fun (t102 : Int) => (((Res.ok curve_)).bind fun (t101 : O_Curve) => Res.ok t101.f_prime).bind fun (t103 : Int) => Res.need (0 < t103) (Res.ok (t102 % t103))).bind fun (square_ : Int) =>   ((((((Res.ok x_)).bind fun (t104 : Int) => ((Res.ok square_)).bind fun (t105 : Int) => Res.need (CMulX t104 t105) (Res.ok (t104 * t105))).bind fun (t107 : Int) => (((Res.ok curve_)).bind fun (t106 : O_Curve) => Res.ok t106.f_prime).bind fun (t108 : Int) => Res.need (0 < t108) (Res.ok (t107 % t108))).bind fun a117 => ((((((Res.ok y_)).bind fun (t109 : Int) => ((Res.ok square_)).bind fun (t110 : Int) => Res.need (CMulX t109 t110) (Res.ok (t109 * t110))).bind fun (t111 : Int) => ((Res.ok scale_)).bind fun (t112 : Int) => Res.need (CMulX t111 t112) (Res.ok (t111 * t112))).bind fun (t114 : Int) => (((Res.ok curve_)).bind fun (t113 : O_Curve) => Res.ok t113.f_prime).bind fun (t115 : Int) => Res.need (0 < t115) (Res.ok (t114 % t115))).bind fun a119 => (Res.ok ()).bind fun a120 => Res.ok (a119, a120)).bind fun a118 => Res.ok (a117, a118)).bind fun p116 => Res.ok (T2.mk p116.1 p116.2.1)).bind fun (x : (T2 Int Int)) => Res.ok (some x))) u90.a u90.b u90.c
theorem ok_from_jacobian {P : Program} {w : World} {K : PySem.W.Frag} {mg : Str → Option Value} {base : Heap} (T : Facts K mg) {fd : FuncData} (F : FnP K "from_jacobian" "from_jacobian" s_from_jacobian (He.ga K "from_jacobian") fd) :
    FnOk P w K mg base (L2.CX P w) 3 (He.ga K "from_jacobian") fd ["curve", "triple"] (spM K (fun (p : O_Curve × (T3 Int Int Int) × Unit) => m_from_jacobian p.1 p.2.1)) := by
  obtain ⟨fd_inverse, F_inverse⟩ := T.d_inverse
  have G_inverse := ok_inverse (P := P) (w := w) (base := base) T F_inverse
  have b_inverse : Binds K fd_inverse ["a", "modulus"] [] := F_inverse.bindsN fun _ _ _ _ _ _ us hl => match us, hl with | [_, _], _ => rfl
  refine fn_ok F sc_from_jacobian (fun y => rfl) (fun cdv A outer s H E hr => ?_)
  refine ⟨_, (pss_cons (ps_asg (pv 1) (pg_tup rfl (pgs_cons (pg_name (i := 2) sc_from_jacobian.nd rfl (Or.inl rfl)) (pgs_cons (pg_name (i := 3) sc_from_jacobian.nd rfl (Or.inl rfl)) (pgs_cons (pg_name (i := 4) sc_from_jacobian.nd rfl (Or.inl rfl)) pgs_nil))))) (pss_cons (ps_if (pt_cmpR op_eq (pv 4) pe_int (nomark _)) (pss_one (ps_ret pe_non)) pss_nil) (pss_cons (ps_set (i := 5) sc_from_jacobian.nd rfl (Or.inl rfl) (pe_callS G_inverse (hr.mono (by decide)) rfl T.g_inverse F_inverse.kp b_inverse (fun σ => passAt (takes_of rfl rfl rfl rfl) σ) (pa_cons (pv 4) (pa_cons (pe_fld (pv 0) rfl) pa_nil)))) (pss_cons (ps_set (i := 6) sc_from_jacobian.nd rfl (Or.inl rfl) (pe_op op_mod (pe_op op_mulX (pv 5) (pv 5)) (pe_fld (pv 0) rfl))) (pss_one (ps_ret (pe_tup (pa_cons (pe_op op_mod (pe_op op_mulX (pv 2) (pv 6)) (pe_fld (pv 0) rfl)) (pa_cons (pe_op op_mod (pe_op op_mulX (pe_op op_mulX (pv 3) (pv 6)) (pv 5)) (pe_fld (pv 0) rfl)) pa_nil))))))))), ?_⟩
  rintro ⟨curve_, triple_, ⟨⟩⟩ F0 H0 Q KP L
  show Blk K F0 H0 KP _ [some (.im (toD curve_)), some (.im (toD triple_)), none, none, none, none, none] (m_from_jacobian curve_ triple_)
  unfold m_from_jacobian
  have hs_ := ((ev_var (i := 1) (x := triple_) rfl) : EvX K (W0 E) [some (.im (toD curve_)), some (.im (toD triple_)), none, none, none, none, none] _ _)
  refine blk_seq (blk_asg L trivial hs_ (fun _ => (gx_tup (gxs_cons gx_name (gxs_cons gx_name (gxs_cons gx_name gxs_nil))) rfl)) fun u90 => ?_)
  show Blk _ _ _ _ _ [some (.im (toD curve_)), some (.im (toD triple_)), some (.im (toD u90.a)), some (.im (toD u90.b)), some (.im (toD u90.c)), none, none] ((fun (x_ : Int) (y_ : Int) (z_ : Int) => _) u90.a u90.b u90.c)
  generalize u90.a = x_
  generalize u90.b = y_
  generalize u90.c = z_
  show Blk _ _ _ _ _ [some (.im (toD curve_)), some (.im (toD triple_)), some (.im (toD x_)), some (.im (toD y_)), some (.im (toD z_)), none, none] _
  try refine Blk.nx ?_
  have ht_ := ((et_test (ev_op opx_eqI mild_ok (ev_var (i := 4) (x := z_) rfl) (ev_int (i := 0)))) : EvT K (W0 E) [some (.im (toD curve_)), some (.im (toD triple_)), some (.im (toD x_)), some (.im (toD y_)), some (.im (toD z_)), none, none] _ _)
  refine blk_seq (blk_if2 L trivial ht_ ?_ ?_)
  · have hr_ := ((ev_noneO (α := (T2 Int Int))) : EvX K (W0 E) [some (.im (toD curve_)), some (.im (toD triple_)), some (.im (toD x_)), some (.im (toD y_)), some (.im (toD z_)), none, none] _ _)
    exact blk_ret L trivial hr_
  · refine blk_nil ?_
    try refine Blk.nx ?_
    have hs_ := ((ev_call (f := (fun (p : Int × Int × Unit) => m_inverse p.1 p.2.1)) (ea_cons (ev_var (i := 4) (x := z_) rfl) (ea_cons (ev_fld (g := fun (x : O_Curve) => x.f_prime) (c := "Curve") (ks := ["prime", "a", "b"]) (j := 0) (ev_var (i := 0) (x := curve_) rfl) T.cl_Curve T.nf_Curve_prime (by decide +kernel) (fun _ => ⟨_, rfl, rfl⟩)) ea_nil))) : EvX K (W0 E) [some (.im (toD curve_)), some (.im (toD triple_)), some (.im (toD x_)), some (.im (toD y_)), some (.im (toD z_)), none, none] _ _)
    refine blk_seq (blk_set (i := 5) L trivial hs_ fun scale_ => ?_)
    show Blk _ _ _ _ _ [some (.im (toD curve_)), some (.im (toD triple_)), some (.im (toD x_)), some (.im (toD y_)), some (.im (toD z_)), some (.im (toD scale_)), none] _
    try refine Blk.nx ?_
    have hs_ := ((ev_op (opx_I (C := (fun _ j => 0 < j)) (g := fun i j => i % j)) mild_need (ev_op (opx_I (C := CMulX) (g := fun i j => i * j)) mild_need (ev_var (i := 5) (x := scale_) rfl) (ev_var (i := 5) (x := scale_) rfl)) (ev_fld (g := fun (x : O_Curve) => x.f_prime) (c := "Curve") (ks := ["prime", "a", "b"]) (j := 0) (ev_var (i := 0) (x := curve_) rfl) T.cl_Curve T.nf_Curve_prime (by decide +kernel) (fun _ => ⟨_, rfl, rfl⟩))) : EvX K (W0 E) [some (.im (toD curve_)), some (.im (toD triple_)), some (.im (toD x_)), some (.im (toD y_)), some (.im (toD z_)), some (.im (toD scale_)), none] _ _)
    refine blk_seq (blk_set (i := 6) L trivial hs_ fun square_ => ?_)
    show Blk _ _ _ _ _ [some (.im (toD curve_)), some (.im (toD triple_)), some (.im (toD x_)), some (.im (toD y_)), some (.im (toD z_)), some (.im (toD scale_)), some (.im (toD square_))] _
    try refine Blk.nx ?_
    have hr_ := ((ev_as (ev_tup (f := (fun y => T2.mk y.1 y.2.1)) (ea_cons (ev_op (opx_I (C := (fun _ j => 0 < j)) (g := fun i j => i % j)) mild_need (ev_op (opx_I (C := CMulX) (g := fun i j => i * j)) mild_need (ev_var (i := 2) (x := x_) rfl) (ev_var (i := 6) (x := square_) rfl)) (ev_fld (g := fun (x : O_Curve) => x.f_prime) (c := "Curve") (ks := ["prime", "a", "b"]) (j := 0) (ev_var (i := 0) (x := curve_) rfl) T.cl_Curve T.nf_Curve_prime (by decide +kernel) (fun _ => ⟨_, rfl, rfl⟩))) (ea_cons (ev_op (opx_I (C := (fun _ j => 0 < j)) (g := fun i j => i % j)) mild_need (ev_op (opx_I (C := CMulX) (g := fun i j => i * j)) mild_need (ev_op (opx_I (C := CMulX) (g := fun i j => i * j)) mild_need (ev_var (i := 3) (x := y_) rfl) (ev_var (i := 6) (x := square_) rfl)) (ev_var (i := 5) (x := scale_) rfl)) (ev_fld (g := fun (x : O_Curve) => x.f_prime) (c := "Curve") (ks := ["prime", "a", "b"]) (j := 0) (ev_var (i := 0) (x := curve_) rfl) T.cl_Curve T.nf_Curve_prime (by decide +kernel) (fun _ => ⟨_, rfl, rfl⟩))) ea_nil)) (fun _ => rfl) (fun _ => by show 2 ≤ 100000; decide)) some (fun _ => rfl) rfl) : EvX K (W0 E) [some (.im (toD curve_)), some (.im (toD triple_)), some (.im (toD x_)), some (.im (toD y_)), some (.im (toD z_)), some (.im (toD scale_)), some (.im (toD square_))] _ _)
    exact blk_ret L trivial hr_
noncomputable def m_double_jacobian (curve_ : O_Curve) (triple_ : (T3 Int Int Int)) : Res (T3 Int Int Int) :=
  ((Res.ok triple_)).bind fun (u121 : (T3 Int Int Int)) =>   (fun (x_ : Int) (y_ : Int) (z_ : Int) => ((((Res.ok y_)).bind fun (t122 : Int) => ((Res.ok (0 : Int))).bind fun (t123 : Int) => Res.ok (decide (t122 = t123))).bind fun b126 => cond b126 (Res.ok true) (((Res.ok z_)).bind fun (t124 : Int) => ((Res.ok (0 : Int))).bind fun (t125 : Int) => Res.ok (decide (t124 = t125)))).bind fun b => cond b   ((Res.ok k_INFINITY))   ((((Res.ok curve_)).bind fun (t127 : O_Curve) => Res.ok t127.f_prime).bind fun (p_ : Int) =>   ((((Res.ok y_)).bind fun (t128 : Int) => ((Res.ok y_)).bind fun (t129 : Int) => Res.need (CMulX t128 t129) (Res.ok (t128 * t129))).bind fun (t130 : Int) => ((Res.ok p_)).bind fun (t131 : Int) => Res.need (0 < t131) (Res.ok (t130 % t131))).bind fun (y_square_ : Int) =>   (((((Res.ok (4 : Int))).bind fun (t132 : Int) => ((Res.ok x_)).bind fun (t133 : Int) => Res.ok (t132 * t133)).bind fun (t134 : Int) => ((Res.ok y_square_)).bind fun (t135 : Int) => Res.need (CMulX t134 t135) (Res.ok (t134 * t135))).bind fun (t136 : Int) => ((Res.ok p_)).bind fun (t137 : Int) => Res.need (0 < t137) (Res.ok (t136 % t137))).bind fun (s_ : Int) =>   ((((((Res.ok (3 : Int))).bind fun (t138 : Int) => ((Res.ok x_)).bind fun (t139 : Int) => Res.ok (t138 * t139)).bind fun (t140 : Int) => ((Res.ok x_)).bind fun (t141 : Int) => Res.need (CMulX t140 t141) (Res.ok (t140 * t141))).bind fun (t147 : Int) => ((((Res.ok curve_)).bind fun (t142 : O_Curve) => Res.ok t142.f_a).bind fun (t145 : Int) => (((Res.ok z_)).bind fun (t143 : Int) => ((Res.ok (4 : Int))).bind fun (t144 : Int) => Res.need (CPowX t143 t144) (Res.ok (t143 ^ t144.toNat))).bind fun (t146 : Int) => Res.need (CMulX t145 t146) (Res.ok (t145 * t146))).bind fun (t148 : Int) => Res.ok (t147 + t148)).bind fun (t149 : Int) => ((Res.ok p_)).bind fun (t150 : Int) => Res.need (0 < t150) (Res.ok (t149 % t150))).bind fun (m_ : Int) =>   (((((Res.ok m_)).bind fun (t151 : Int) => ((Res.ok m_)).bind fun (t152 : Int) => Res.need (CMulX t151 t152) (Res.ok (t151 * t152))).bind fun (t155 : Int) => (((Res.ok (2 : Int))).bind fun (t153 : Int) => ((Res.ok s_)).bind fun (t154 : Int) => Res.ok (t153 * t154)).bind fun (t156 : Int) => Res.ok (t155 - t156)).bind fun (t157 : Int) => ((Res.ok p_)).bind fun (t158 : Int) => Res.need (0 < t158) (Res.ok (t157 % t158))).bind fun (x3_ : Int) =>   (((((Res.ok m_)).bind fun (t161 : Int) => (((Res.ok s_)).bind fun (t159 : Int) => ((Res.ok x3_)).bind fun (t160 : Int) => Res.ok (t159 - t160)).bind fun (t162 : Int) => Res.need (CMulX t161 t162) (Res.ok (t161 * t162))).bind fun (t167 : Int) => ((((Res.ok (8 : Int))).bind fun (t163 : Int) => ((Res.ok y_square_)).bind fun (t164 : Int) => Res.ok (t163 * t164)).bind fun (t165 : Int) => ((Res.ok y_square_)).bind fun (t166 : Int) => Res.need (CMulX t165 t166) (Res.ok (t165 * t166))).bind fun (t168 : Int) => Res.ok (t167 - t168)).bind fun (t169 : Int) => ((Res.ok p_)).bind fun (t170 : Int) => Res.need (0 < t170) (Res.ok (t169 % t170))).bind fun (y3_ : Int) =>   (((Res.ok x3_)).bind fun a178 => (((Res.ok y3_)).bind fun a180 => ((((((Res.ok (2 : Int))).bind fun (t171 : Int) => ((Res.ok y_)).bind fun (t172 : Int) => Res.ok (t171 * t172)).bind fun (t173 : Int) => ((Res.ok z_)).bind fun (t174 : Int) => Res.need (CMulX t173 t174) (Res.ok (t173 * t174))).bind fun (t175 : Int) => ((Res.ok p_)).bind fun (t176 : Int) => Res.need (0 < t176) (Res.ok (t175 % t176))).bind fun a182 => (Res.ok ()).bind fun a183 => Res.ok (a182, a183)).bind fun a181 => Res.ok (a180, a181)).bind fun a179 => Res.ok (a178, a179)).bind fun p177 => Res.ok (T3.mk p177.1 p177.2.1 p177.2.2.1))) u121.a u121.b u121.c
theorem ok_double_jacobian {P : Program} {w : World} {K : PySem.W.Frag} {mg : Str → Option Value} {base : Heap} (T : Facts K mg) {fd : FuncData} (F : FnP K "double_jacobian" "double_jacobian" s_double_jacobian (He.ga K "double_jacobian") fd) :
    FnOk P w K mg base (L2.CX P w) 1 (He.ga K "double_jacobian") fd ["curve", "triple"] (spM K (fun (p : O_Curve × (T3 Int Int Int) × Unit) => m_double_jacobian p.1 p.2.1)) := by
  refine fn_ok F sc_double_jacobian (fun y => rfl) (fun cdv A outer s H E hr => ?_)
  refine ⟨_, (pss_cons (ps_asg (pv 1) (pg_tup rfl (pgs_cons (pg_name (i := 2) sc_double_jacobian.nd rfl (Or.inl rfl)) (pgs_cons (pg_name (i := 3) sc_double_jacobian.nd rfl (Or.inl rfl)) (pgs_cons (pg_name (i := 4) sc_double_jacobian.nd rfl (Or.inl rfl)) pgs_nil))))) (pss_cons (ps_if (PW.pt (pw_or (pt_cmpR op_eq (pv 3) pe_int (nomark _)) (pw_or1 (pt_cmpR op_eq (pv 4) pe_int (nomark _))))) (pss_one (ps_ret (pe_glob (v := T.c_INFINITY.v) rfl T.c_INFINITY.m T.c_INFINITY.r))) pss_nil) (pss_cons (ps_set (i := 5) sc_double_jacobian.nd rfl (Or.inl rfl) (pe_fld (pv 0) rfl)) (pss_cons (ps_set (i := 6) sc_double_jacobian.nd rfl (Or.inl rfl) (pe_op op_mod (pe_op op_mulX (pv 3) (pv 3)) (pv 5))) (pss_cons (ps_set (i := 7) sc_double_jacobian.nd rfl (Or.inl rfl) (pe_op op_mod (pe_op op_mulX (pe_op op_mul pe_int (pv 2)) (pv 6)) (pv 5))) (pss_cons (ps_set (i := 8) sc_double_jacobian.nd rfl (Or.inl rfl) (pe_op op_mod (pe_op op_add (pe_op op_mulX (pe_op op_mul pe_int (pv 2)) (pv 2)) (pe_op op_mulX (pe_fld (pv 0) rfl) (pe_op op_powX (pv 4) pe_int))) (pv 5))) (pss_cons (ps_set (i := 9) sc_double_jacobian.nd rfl (Or.inl rfl) (pe_op op_mod (pe_op op_sub (pe_op op_mulX (pv 8) (pv 8)) (pe_op op_mul pe_int (pv 7))) (pv 5))) (pss_cons (ps_set (i := 10) sc_double_jacobian.nd rfl (Or.inl rfl) (pe_op op_mod (pe_op op_sub (pe_op op_mulX (pv 8) (pe_op op_sub (pv 7) (pv 9))) (pe_op op_mulX (pe_op op_mul pe_int (pv 6)) (pv 6))) (pv 5))) (pss_one (ps_ret (pe_tup (pa_cons (pv 9) (pa_cons (pv 10) (pa_cons (pe_op op_mod (pe_op op_mulX (pe_op op_mul pe_int (pv 3)) (pv 4)) (pv 5)) pa_nil)))))))))))))), ?_⟩
  rintro ⟨curve_, triple_, ⟨⟩⟩ F0 H0 Q KP L
  show Blk K F0 H0 KP _ [some (.im (toD curve_)), some (.im (toD triple_)), none, none, none, none, none, none, none, none, none] (m_double_jacobian curve_ triple_)
  unfold m_double_jacobian
  have hs_ := ((ev_var (i := 1) (x := triple_) rfl) : EvX K (W0 E) [some (.im (toD curve_)), some (.im (toD triple_)), none, none, none, none, none, none, none, none, none] _ _)
  refine blk_seq (blk_asg L trivial hs_ (fun _ => (gx_tup (gxs_cons gx_name (gxs_cons gx_name (gxs_cons gx_name gxs_nil))) rfl)) fun u121 => ?_)
  show Blk _ _ _ _ _ [some (.im (toD curve_)), some (.im (toD triple_)), some (.im (toD u121.a)), some (.im (toD u121.b)), some (.im (toD u121.c)), none, none, none, none, none, none] ((fun (x_ : Int) (y_ : Int) (z_ : Int) => _) u121.a u121.b u121.c)
  generalize u121.a = x_
  generalize u121.b = y_
  generalize u121.c = z_
  show Blk _ _ _ _ _ [some (.im (toD curve_)), some (.im (toD triple_)), some (.im (toD x_)), some (.im (toD y_)), some (.im (toD z_)), none, none, none, none, none, none] _
  try refine Blk.nx ?_
  have ht_ := ((et_or (et_test (ev_op opx_eqI mild_ok (ev_var (i := 3) (x := y_) rfl) (ev_int (i := 0)))) (et_test (ev_op opx_eqI mild_ok (ev_var (i := 4) (x := z_) rfl) (ev_int (i := 0))))) : EvT K (W0 E) [some (.im (toD curve_)), some (.im (toD triple_)), some (.im (toD x_)), some (.im (toD y_)), some (.im (toD z_)), none, none, none, none, none, none] _ _)
  refine blk_seq (blk_if2 L trivial ht_ ?_ ?_)
  · have hr_ := ((ev_con T.c_INFINITY) : EvX K (W0 E) [some (.im (toD curve_)), some (.im (toD triple_)), some (.im (toD x_)), some (.im (toD y_)), some (.im (toD z_)), none, none, none, none, none, none] _ _)
    exact blk_ret L trivial hr_
  · refine blk_nil ?_
    try refine Blk.nx ?_
    have hs_ := ((ev_fld (g := fun (x : O_Curve) => x.f_prime) (c := "Curve") (ks := ["prime", "a", "b"]) (j := 0) (ev_var (i := 0) (x := curve_) rfl) T.cl_Curve T.nf_Curve_prime (by decide +kernel) (fun _ => ⟨_, rfl, rfl⟩)) : EvX K (W0 E) [some (.im (toD curve_)), some (.im (toD triple_)), some (.im (toD x_)), some (.im (toD y_)), some (.im (toD z_)), none, none, none, none, none, none] _ _)
    refine blk_seq (blk_set (i := 5) L trivial hs_ fun p_ => ?_)
    show Blk _ _ _ _ _ [some (.im (toD curve_)), some (.im (toD triple_)), some (.im (toD x_)), some (.im (toD y_)), some (.im (toD z_)), some (.im (toD p_)), none, none, none, none, none] _
    try refine Blk.nx ?_
    have hs_ := ((ev_op (opx_I (C := (fun _ j => 0 < j)) (g := fun i j => i % j)) mild_need (ev_op (opx_I (C := CMulX) (g := fun i j => i * j)) mild_need (ev_var (i := 3) (x := y_) rfl) (ev_var (i := 3) (x := y_) rfl)) (ev_var (i := 5) (x := p_) rfl)) : EvX K (W0 E) [some (.im (toD curve_)), some (.im (toD triple_)), some (.im (toD x_)), some (.im (toD y_)), some (.im (toD z_)), some (.im (toD p_)), none, none, none, none, none] _ _)
    refine blk_seq (blk_set (i := 6) L trivial hs_ fun y_square_ => ?_)
    show Blk _ _ _ _ _ [some (.im (toD curve_)), some (.im (toD triple_)), some (.im (toD x_)), some (.im (toD y_)), some (.im (toD z_)), some (.im (toD p_)), some (.im (toD y_square_)), none, none, none, none] _
    try refine Blk.nx ?_
    have hs_ := ((ev_op (opx_I (C := (fun _ j => 0 < j)) (g := fun i j => i % j)) mild_need (ev_op (opx_I (C := CMulX) (g := fun i j => i * j)) mild_need (ev_opI (C := CMul) (g := fun i j => i * j) (fun x y h _ => by cases h; exact .inl (by decide)) (ev_int (i := 4)) (ev_var (i := 2) (x := x_) rfl)) (ev_var (i := 6) (x := y_square_) rfl)) (ev_var (i := 5) (x := p_) rfl)) : EvX K (W0 E) [some (.im (toD curve_)), some (.im (toD triple_)), some (.im (toD x_)), some (.im (toD y_)), some (.im (toD z_)), some (.im (toD p_)), some (.im (toD y_square_)), none, none, none, none] _ _)
    refine blk_seq (blk_set (i := 7) L trivial hs_ fun s_ => ?_)
    show Blk _ _ _ _ _ [some (.im (toD curve_)), some (.im (toD triple_)), some (.im (toD x_)), some (.im (toD y_)), some (.im (toD z_)), some (.im (toD p_)), some (.im (toD y_square_)), some (.im (toD s_)), none, none, none] _
    try refine Blk.nx ?_
    have hs_ := ((ev_op (opx_I (C := (fun _ j => 0 < j)) (g := fun i j => i % j)) mild_need (ev_op (opx_I0 (g := fun i j => i + j)) mild_ok (ev_op (opx_I (C := CMulX) (g := fun i j => i * j)) mild_need (ev_opI (C := CMul) (g := fun i j => i * j) (fun x y h _ => by cases h; exact .inl (by decide)) (ev_int (i := 3)) (ev_var (i := 2) (x := x_) rfl)) (ev_var (i := 2) (x := x_) rfl)) (ev_op (opx_I (C := CMulX) (g := fun i j => i * j)) mild_need (ev_fld (g := fun (x : O_Curve) => x.f_a) (c := "Curve") (ks := ["prime", "a", "b"]) (j := 1) (ev_var (i := 0) (x := curve_) rfl) T.cl_Curve T.nf_Curve_a (by decide +kernel) (fun _ => ⟨_, rfl, rfl⟩)) (ev_op (opx_I (C := CPowX) (g := fun i j => i ^ j.toNat)) mild_need (ev_var (i := 4) (x := z_) rfl) (ev_int (i := 4))))) (ev_var (i := 5) (x := p_) rfl)) : EvX K (W0 E) [some (.im (toD curve_)), some (.im (toD triple_)), some (.im (toD x_)), some (.im (toD y_)), some (.im (toD z_)), some (.im (toD p_)), some (.im (toD y_square_)), some (.im (toD s_)), none, none, none] _ _)
    refine blk_seq (blk_set (i := 8) L trivial hs_ fun m_ => ?_)
    show Blk _ _ _ _ _ [some (.im (toD curve_)), some (.im (toD triple_)), some (.im (toD x_)), some (.im (toD y_)), some (.im (toD z_)), some (.im (toD p_)), some (.im (toD y_square_)), some (.im (toD s_)), some (.im (toD m_)), none, none] _
    try refine Blk.nx ?_
    have hs_ := ((ev_op (opx_I (C := (fun _ j => 0 < j)) (g := fun i j => i % j)) mild_need (ev_op (opx_I0 (g := fun i j => i - j)) mild_ok (ev_op (opx_I (C := CMulX) (g := fun i j => i * j)) mild_need (ev_var (i := 8) (x := m_) rfl) (ev_var (i := 8) (x := m_) rfl)) (ev_opI (C := CMul) (g := fun i j => i * j) (fun x y h _ => by cases h; exact .inl (by decide)) (ev_int (i := 2)) (ev_var (i := 7) (x := s_) rfl))) (ev_var (i := 5) (x := p_) rfl)) : EvX K (W0 E) [some (.im (toD curve_)), some (.im (toD triple_)), some (.im (toD x_)), some (.im (toD y_)), some (.im (toD z_)), some (.im (toD p_)), some (.im (toD y_square_)), some (.im (toD s_)), some (.im (toD m_)), none, none] _ _)
    refine blk_seq (blk_set (i := 9) L trivial hs_ fun x3_ => ?_)
    show Blk _ _ _ _ _ [some (.im (toD curve_)), some (.im (toD triple_)), some (.im (toD x_)), some (.im (toD y_)), some (.im (toD z_)), some (.im (toD p_)), some (.im (toD y_square_)), some (.im (toD s_)), some (.im (toD m_)), some (.im (toD x3_)), none] _
    try refine Blk.nx ?_
    have hs_ := ((ev_op (opx_I (C := (fun _ j => 0 < j)) (g := fun i j => i % j)) mild_need (ev_op (opx_I0 (g := fun i j => i - j)) mild_ok (ev_op (opx_I (C := CMulX) (g := fun i j => i * j)) mild_need (ev_var (i := 8) (x := m_) rfl) (ev_op (opx_I0 (g := fun i j => i - j)) mild_ok (ev_var (i := 7) (x := s_) rfl) (ev_var (i := 9) (x := x3_) rfl))) (ev_op (opx_I (C := CMulX) (g := fun i j => i * j)) mild_need (ev_opI (C := CMul) (g := fun i j => i * j) (fun x y h _ => by cases h; exact .inl (by decide)) (ev_int (i := 8)) (ev_var (i := 6) (x := y_square_) rfl)) (ev_var (i := 6) (x := y_square_) rfl))) (ev_var (i := 5) (x := p_) rfl)) : EvX K (W0 E) [some (.im (toD curve_)), some (.im (toD triple_)), some (.im (toD x_)), some (.im (toD y_)), some (.im (toD z_)), some (.im (toD p_)), some (.im (toD y_square_)), some (.im (toD s_)), some (.im (toD m_)), some (.im (toD x3_)), none] _ _)
    refine blk_seq (blk_set (i := 10) L trivial hs_ fun y3_ => ?_)
    show Blk _ _ _ _ _ [some (.im (toD curve_)), some (.im (toD triple_)), some (.im (toD x_)), some (.im (toD y_)), some (.im (toD z_)), some (.im (toD p_)), some (.im (toD y_square_)), some (.im (toD s_)), some (.im (toD m_)), some (.im (toD x3_)), some (.im (toD y3_))] _
    try refine Blk.nx ?_
    have hr_ := ((ev_tup (f := (fun y => T3.mk y.1 y.2.1 y.2.2.1)) (ea_cons (ev_var (i := 9) (x := x3_) rfl) (ea_cons (ev_var (i := 10) (x := y3_) rfl) (ea_cons (ev_op (opx_I (C := (fun _ j => 0 < j)) (g := fun i j => i % j)) mild_need (ev_op (opx_I (C := CMulX) (g := fun i j => i * j)) mild_need (ev_opI (C := CMul) (g := fun i j => i * j) (fun x y h _ => by cases h; exact .inl (by decide)) (ev_int (i := 2)) (ev_var (i := 3) (x := y_) rfl)) (ev_var (i := 4) (x := z_) rfl)) (ev_var (i := 5) (x := p_) rfl)) ea_nil))) (fun _ => rfl) (fun _ => by show 3 ≤ 100000; decide)) : EvX K (W0 E) [some (.im (toD curve_)), some (.im (toD triple_)), some (.im (toD x_)), some (.im (toD y_)), some (.im (toD z_)), some (.im (toD p_)), some (.im (toD y_square_)), some (.im (toD s_)), some (.im (toD m_)), some (.im (toD x3_)), some (.im (toD y3_))] _ _)
    exact blk_ret L trivial hr_
noncomputable def m_u_scaled (triple_ : (T3 Int Int Int)) (z_ : Int) (prime_ : Int) : Res (T2 Int Int) :=
  ((((Res.ok z_)).bind fun (t184 : Int) => ((Res.ok z_)).bind fun (t185 : Int) => Res.need (CMulX t184 t185) (Res.ok (t184 * t185))).bind fun (t186 : Int) => ((Res.ok prime_)).bind fun (t187 : Int) => Res.need (0 < t187) (Res.ok (t186 % t187))).bind fun (square_ : Int) =>   ((((((Res.ok triple_)).bind fun (t188 : (T3 Int Int Int)) => Res.ok t188.a).bind fun (t189 : Int) => ((Res.ok square_)).bind fun (t190 : Int) => Res.need (CMulX t189 t190) (Res.ok (t189 * t190))).bind fun (t191 : Int) => ((Res.ok prime_)).bind fun (t192 : Int) => Res.need (0 < t192) (Res.ok (t191 % t192))).bind fun a201 => (((((((Res.ok triple_)).bind fun (t193 : (T3 Int Int Int)) => Res.ok t193.b).bind fun (t194 : Int) => ((Res.ok square_)).bind fun (t195 : Int) => Res.need (CMulX t194 t195) (Res.ok (t194 * t195))).bind fun (t196 : Int) => ((Res.ok z_)).bind fun (t197 : Int) => Res.need (CMulX t196 t197) (Res.ok (t196 * t197))).bind fun (t198 : Int) => ((Res.ok prime_)).bind fun (t199 : Int) => Res.need (0 < t199) (Res.ok (t198 % t199))).bind fun a203 => (Res.ok ()).bind fun a204 => Res.ok (a203, a204)).bind fun a202 => Res.ok (a201, a202)).bind fun p200 => Res.ok (T2.mk p200.1 p200.2.1)
theorem ok_u_scaled {P : Program} {w : World} {K : PySem.W.Frag} {mg : Str → Option Value} {base : Heap} (T : Facts K mg) {fd : FuncData} (F : FnP K "_scaled" "_scaled" s_u_scaled (He.ga K "_scaled") fd) :
    FnOk P w K mg base (L2.CX P w) 1 (He.ga K "_scaled") fd ["triple", "z", "prime"] (spM K (fun (p : (T3 Int Int Int) × Int × Int × Unit) => m_u_scaled p.1 p.2.1 p.2.2.1)) := by
  refine fn_ok F sc_u_scaled (fun y => rfl) (fun cdv A outer s H E hr => ?_)
  refine ⟨_, (pss_cons (ps_set (i := 3) sc_u_scaled.nd rfl (Or.inl rfl) (pe_op op_mod (pe_op op_mulX (pv 1) (pv 1)) (pv 2))) (pss_one (ps_ret (pe_tup (pa_cons (pe_op op_mod (pe_op op_mulX (pe_ix (cr_ixT rfl) (pv 0) pe_int (fun _ _ => rfl)) (pv 3)) (pv 2)) (pa_cons (pe_op op_mod (pe_op op_mulX (pe_op op_mulX (pe_ix (cr_ixT rfl) (pv 0) pe_int (fun _ _ => rfl)) (pv 3)) (pv 1)) (pv 2)) pa_nil)))))), ?_⟩
  rintro ⟨triple_, z_, prime_, ⟨⟩⟩ F0 H0 Q KP L
  show Blk K F0 H0 KP _ [some (.im (toD triple_)), some (.im (toD z_)), some (.im (toD prime_)), none] (m_u_scaled triple_ z_ prime_)
  unfold m_u_scaled
  have hs_ := ((ev_op (opx_I (C := (fun _ j => 0 < j)) (g := fun i j => i % j)) mild_need (ev_op (opx_I (C := CMulX) (g := fun i j => i * j)) mild_need (ev_var (i := 1) (x := z_) rfl) (ev_var (i := 1) (x := z_) rfl)) (ev_var (i := 2) (x := prime_) rfl)) : EvX K (W0 E) [some (.im (toD triple_)), some (.im (toD z_)), some (.im (toD prime_)), none] _ _)
  refine blk_seq (blk_set (i := 3) L trivial hs_ fun square_ => ?_)
  show Blk _ _ _ _ _ [some (.im (toD triple_)), some (.im (toD z_)), some (.im (toD prime_)), some (.im (toD square_))] _
  try refine Blk.nx ?_
  have hr_ := ((ev_tup (f := (fun y => T2.mk y.1 y.2.1)) (ea_cons (ev_op (opx_I (C := (fun _ j => 0 < j)) (g := fun i j => i % j)) mild_need (ev_op (opx_I (C := CMulX) (g := fun i j => i * j)) mild_need (ev_ixTC (i := 0) (f := fun x => x.a) (ev_var (i := 0) (x := triple_) rfl) (fun x => ⟨_, rfl, rfl⟩)) (ev_var (i := 3) (x := square_) rfl)) (ev_var (i := 2) (x := prime_) rfl)) (ea_cons (ev_op (opx_I (C := (fun _ j => 0 < j)) (g := fun i j => i % j)) mild_need (ev_op (opx_I (C := CMulX) (g := fun i j => i * j)) mild_need (ev_op (opx_I (C := CMulX) (g := fun i j => i * j)) mild_need (ev_ixTC (i := 1) (f := fun x => x.b) (ev_var (i := 0) (x := triple_) rfl) (fun x => ⟨_, rfl, rfl⟩)) (ev_var (i := 3) (x := square_) rfl)) (ev_var (i := 1) (x := z_) rfl)) (ev_var (i := 2) (x := prime_) rfl)) ea_nil)) (fun _ => rfl) (fun _ => by show 2 ≤ 100000; decide)) : EvX K (W0 E) [some (.im (toD triple_)), some (.im (toD z_)), some (.im (toD prime_)), some (.im (toD square_))] _ _)
  exact blk_ret L trivial hr_
noncomputable def m_add_jacobian (curve_ : O_Curve) (first_ : (T3 Int Int Int)) (second_ : (T3 Int Int Int)) : Res (T3 Int Int Int) :=
  ((((Res.ok first_)).bind fun (t205 : (T3 Int Int Int)) => Res.ok t205.c).bind fun (t206 : Int) => ((Res.ok (0 : Int))).bind fun (t207 : Int) => Res.ok (decide (t206 = t207))).bind fun b => cond b   ((Res.ok second_))   (((((Res.ok second_)).bind fun (t208 : (T3 Int Int Int)) => Res.ok t208.c).bind fun (t209 : Int) => ((Res.ok (0 : Int))).bind fun (t210 : Int) => Res.ok (decide (t209 = t210))).bind fun b => cond b   ((Res.ok first_))   ((((Res.ok curve_)).bind fun (t211 : O_Curve) => Res.ok t211.f_prime).bind fun (p_ : Int) =>   ((((Res.ok first_)).bind fun a214 => ((((Res.ok second_)).bind fun (t212 : (T3 Int Int Int)) => Res.ok t212.c).bind fun a216 => (((Res.ok p_)).bind fun a218 => (Res.ok ()).bind fun a219 => Res.ok (a218, a219)).bind fun a217 => Res.ok (a216, a217)).bind fun a215 => Res.ok (a214, a215)).bind fun p213 => m_u_scaled p213.1 p213.2.1 p213.2.2.1).bind fun (u220 : (T2 Int Int)) =>   (fun (u1_ : Int) (s1_ : Int) => ((((Res.ok second_)).bind fun a223 => ((((Res.ok first_)).bind fun (t221 : (T3 Int Int Int)) => Res.ok t221.c).bind fun a225 => (((Res.ok p_)).bind fun a227 => (Res.ok ()).bind fun a228 => Res.ok (a227, a228)).bind fun a226 => Res.ok (a225, a226)).bind fun a224 => Res.ok (a223, a224)).bind fun p222 => m_u_scaled p222.1 p222.2.1 p222.2.2.1).bind fun (u229 : (T2 Int Int)) =>   (fun (u2_ : Int) (s2_ : Int) => (((Res.ok u1_)).bind fun (t230 : Int) => ((Res.ok u2_)).bind fun (t231 : Int) => Res.ok (decide (t230 = t231))).bind fun b => cond b   ((((Res.ok s1_)).bind fun (t232 : Int) => ((Res.ok s2_)).bind fun (t233 : Int) => Res.ok (decide (t232 = t233))).bind fun b239 => cond b239 ((((Res.ok curve_)).bind fun a235 => (((Res.ok first_)).bind fun a237 => (Res.ok ()).bind fun a238 => Res.ok (a237, a238)).bind fun a236 => Res.ok (a235, a236)).bind fun p234 => m_double_jacobian p234.1 p234.2.1) ((Res.ok k_INFINITY)))   ((((Res.ok u2_)).bind fun (t240 : Int) => ((Res.ok u1_)).bind fun (t241 : Int) => Res.ok (t240 - t241)).bind fun (h_ : Int) =>   (((Res.ok s2_)).bind fun (t242 : Int) => ((Res.ok s1_)).bind fun (t243 : Int) => Res.ok (t242 - t243)).bind fun (r_ : Int) =>   ((((Res.ok h_)).bind fun (t244 : Int) => ((Res.ok h_)).bind fun (t245 : Int) => Res.need (CMulX t244 t245) (Res.ok (t244 * t245))).bind fun (t246 : Int) => ((Res.ok p_)).bind fun (t247 : Int) => Res.need (0 < t247) (Res.ok (t246 % t247))).bind fun (h_square_ : Int) =>   ((((Res.ok h_)).bind fun (t248 : Int) => ((Res.ok h_square_)).bind fun (t249 : Int) => Res.need (CMulX t248 t249) (Res.ok (t248 * t249))).bind fun (t250 : Int) => ((Res.ok p_)).bind fun (t251 : Int) => Res.need (0 < t251) (Res.ok (t250 % t251))).bind fun (h_cube_ : Int) =>   ((((Res.ok u1_)).bind fun (t252 : Int) => ((Res.ok h_square_)).bind fun (t253 : Int) => Res.need (CMulX t252 t253) (Res.ok (t252 * t253))).bind fun (t254 : Int) => ((Res.ok p_)).bind fun (t255 : Int) => Res.need (0 < t255) (Res.ok (t254 % t255))).bind fun (v_ : Int) =>   ((((((Res.ok r_)).bind fun (t256 : Int) => ((Res.ok r_)).bind fun (t257 : Int) => Res.need (CMulX t256 t257) (Res.ok (t256 * t257))).bind fun (t258 : Int) => ((Res.ok h_cube_)).bind fun (t259 : Int) => Res.ok (t258 - t259)).bind fun (t262 : Int) => (((Res.ok (2 : Int))).bind fun (t260 : Int) => ((Res.ok v_)).bind fun (t261 : Int) => Res.ok (t260 * t261)).bind fun (t263 : Int) => Res.ok (t262 - t263)).bind fun (t264 : Int) => ((Res.ok p_)).bind fun (t265 : Int) => Res.need (0 < t265) (Res.ok (t264 % t265))).bind fun (x3_ : Int) =>   (((((Res.ok r_)).bind fun (t268 : Int) => (((Res.ok v_)).bind fun (t266 : Int) => ((Res.ok x3_)).bind fun (t267 : Int) => Res.ok (t266 - t267)).bind fun (t269 : Int) => Res.need (CMulX t268 t269) (Res.ok (t268 * t269))).bind fun (t272 : Int) => (((Res.ok s1_)).bind fun (t270 : Int) => ((Res.ok h_cube_)).bind fun (t271 : Int) => Res.need (CMulX t270 t271) (Res.ok (t270 * t271))).bind fun (t273 : Int) => Res.ok (t272 - t273)).bind fun (t274 : Int) => ((Res.ok p_)).bind fun (t275 : Int) => Res.need (0 < t275) (Res.ok (t274 % t275))).bind fun (y3_ : Int) =>   (((Res.ok x3_)).bind fun a285 => (((Res.ok y3_)).bind fun a287 => ((((((Res.ok h_)).bind fun (t277 : Int) => (((Res.ok first_)).bind fun (t276 : (T3 Int Int Int)) => Res.ok t276.c).bind fun (t278 : Int) => Res.need (CMulX t277 t278) (Res.ok (t277 * t278))).bind fun (t280 : Int) => (((Res.ok second_)).bind fun (t279 : (T3 Int Int Int)) => Res.ok t279.c).bind fun (t281 : Int) => Res.need (CMulX t280 t281) (Res.ok (t280 * t281))).bind fun (t282 : Int) => ((Res.ok p_)).bind fun (t283 : Int) => Res.need (0 < t283) (Res.ok (t282 % t283))).bind fun a289 => (Res.ok ()).bind fun a290 => Res.ok (a289, a290)).bind fun a288 => Res.ok (a287, a288)).bind fun a286 => Res.ok (a285, a286)).bind fun p284 => Res.ok (T3.mk p284.1 p284.2.1 p284.2.2.1))) u229.a u229.b) u220.a u220.b))
theorem ok_add_jacobian {P : Program} {w : World} {K : PySem.W.Frag} {mg : Str → Option Value} {base : Heap} (T : Facts K mg) {fd : FuncData} (F : FnP K "add_jacobian" "add_jacobian" s_add_jacobian (He.ga K "add_jacobian") fd) :
    FnOk P w K mg base (L2.CX P w) 2 (He.ga K "add_jacobian") fd ["curve", "first", "second"] (spM K (fun (p : O_Curve × (T3 Int Int Int) × (T3 Int Int Int) × Unit) => m_add_jacobian p.1 p.2.1 p.2.2.1)) := by
  obtain ⟨fd_u_scaled, F_u_scaled⟩ := T.d_u_scaled
  have G_u_scaled := ok_u_scaled (P := P) (w := w) (base := base) T F_u_scaled
  have b_u_scaled : Binds K fd_u_scaled ["triple", "z", "prime"] [] := F_u_scaled.bindsN fun _ _ _ _ _ _ us hl => match us, hl with | [_, _, _], _ => rfl
  obtain ⟨fd_double_jacobian, F_double_jacobian⟩ := T.d_double_jacobian
  have G_double_jacobian := ok_double_jacobian (P := P) (w := w) (base := base) T F_double_jacobian
  have b_double_jacobian : Binds K fd_double_jacobian ["curve", "triple"] [] := F_double_jacobian.bindsN fun _ _ _ _ _ _ us hl => match us, hl with | [_, _], _ => rfl
  refine fn_ok F sc_add_jacobian (fun y => rfl) (fun cdv A outer s H E hr => ?_)
  refine ⟨_, (pss_cons (ps_if (pt_cmpR op_eq (pe_ix (cr_ixT rfl) (pv 1) pe_int (fun _ _ => rfl)) pe_int (nomark _)) (pss_one (ps_ret (pv 2))) pss_nil) (pss_cons (ps_if (pt_cmpR op_eq (pe_ix (cr_ixT rfl) (pv 2) pe_int (fun _ _ => rfl)) pe_int (nomark _)) (pss_one (ps_ret (pv 1))) pss_nil) (pss_cons (ps_set (i := 3) sc_add_jacobian.nd rfl (Or.inl rfl) (pe_fld (pv 0) rfl)) (pss_cons (ps_asg (pe_callS G_u_scaled (hr.mono (by decide)) rfl T.g_u_scaled F_u_scaled.kp b_u_scaled (fun σ => passAt (takes_of rfl rfl rfl rfl) σ) (pa_cons (pv 1) (pa_cons (pe_ix (cr_ixT rfl) (pv 2) pe_int (fun _ _ => rfl)) (pa_cons (pv 3) pa_nil)))) (pg_tup rfl (pgs_cons (pg_name (i := 4) sc_add_jacobian.nd rfl (Or.inl rfl)) (pgs_cons (pg_name (i := 5) sc_add_jacobian.nd rfl (Or.inl rfl)) pgs_nil)))) (pss_cons (ps_asg (pe_callS G_u_scaled (hr.mono (by decide)) rfl T.g_u_scaled F_u_scaled.kp b_u_scaled (fun σ => passAt (takes_of rfl rfl rfl rfl) σ) (pa_cons (pv 2) (pa_cons (pe_ix (cr_ixT rfl) (pv 1) pe_int (fun _ _ => rfl)) (pa_cons (pv 3) pa_nil)))) (pg_tup rfl (pgs_cons (pg_name (i := 6) sc_add_jacobian.nd rfl (Or.inl rfl)) (pgs_cons (pg_name (i := 7) sc_add_jacobian.nd rfl (Or.inl rfl)) pgs_nil)))) (pss_cons (ps_if (pt_cmpR op_eq (pv 4) (pv 6) (nomark _)) (pss_one (ps_ret (pe_ifExp (pt_cmpR op_eq (pv 5) (pv 7) (nomark _)) (pe_callS G_double_jacobian (hr.mono (by decide)) rfl T.g_double_jacobian F_double_jacobian.kp b_double_jacobian (fun σ => passAt (takes_of rfl rfl rfl rfl) σ) (pa_cons (pv 0) (pa_cons (pv 1) pa_nil))) (pe_glob (v := T.c_INFINITY.v) rfl T.c_INFINITY.m T.c_INFINITY.r)))) pss_nil) (pss_cons (ps_set (i := 8) sc_add_jacobian.nd rfl (Or.inl rfl) (pe_op op_sub (pv 6) (pv 4))) (pss_cons (ps_set (i := 9) sc_add_jacobian.nd rfl (Or.inl rfl) (pe_op op_sub (pv 7) (pv 5))) (pss_cons (ps_set (i := 10) sc_add_jacobian.nd rfl (Or.inl rfl) (pe_op op_mod (pe_op op_mulX (pv 8) (pv 8)) (pv 3))) (pss_cons (ps_set (i := 11) sc_add_jacobian.nd rfl (Or.inl rfl) (pe_op op_mod (pe_op op_mulX (pv 8) (pv 10)) (pv 3))) (pss_cons (ps_set (i := 12) sc_add_jacobian.nd rfl (Or.inl rfl) (pe_op op_mod (pe_op op_mulX (pv 4) (pv 10)) (pv 3))) (pss_cons (ps_set (i := 13) sc_add_jacobian.nd rfl (Or.inl rfl) (pe_op op_mod (pe_op op_sub (pe_op op_sub (pe_op op_mulX (pv 9) (pv 9)) (pv 11)) (pe_op op_mul pe_int (pv 12))) (pv 3))) (pss_cons (ps_set (i := 14) sc_add_jacobian.nd rfl (Or.inl rfl) (pe_op op_mod (pe_op op_sub (pe_op op_mulX (pv 9) (pe_op op_sub (pv 12) (pv 13))) (pe_op op_mulX (pv 5) (pv 11))) (pv 3))) (pss_one (ps_ret (pe_tup (pa_cons (pv 13) (pa_cons (pv 14) (pa_cons (pe_op op_mod (pe_op op_mulX (pe_op op_mulX (pv 8) (pe_ix (cr_ixT rfl) (pv 1) pe_int (fun _ _ => rfl))) (pe_ix (cr_ixT rfl) (pv 2) pe_int (fun _ _ => rfl))) (pv 3)) pa_nil))))))))))))))))))), ?_⟩
  rintro ⟨curve_, first_, second_, ⟨⟩⟩ F0 H0 Q KP L
  show Blk K F0 H0 KP _ [some (.im (toD curve_)), some (.im (toD first_)), some (.im (toD second_)), none, none, none, none, none, none, none, none, none, none, none, none] (m_add_jacobian curve_ first_ second_)
  unfold m_add_jacobian
  have ht_ := ((et_test (ev_op opx_eqI mild_ok (ev_ixTC (i := 2) (f := fun x => x.c) (ev_var (i := 1) (x := first_) rfl) (fun x => ⟨_, rfl, rfl⟩)) (ev_int (i := 0)))) : EvT K (W0 E) [some (.im (toD curve_)), some (.im (toD first_)), some (.im (toD second_)), none, none, none, none, none, none, none, none, none, none, none, none] _ _)
  refine blk_seq (blk_if2 L trivial ht_ ?_ ?_)
  · have hr_ := ((ev_var (i := 2) (x := second_) rfl) : EvX K (W0 E) [some (.im (toD curve_)), some (.im (toD first_)), some (.im (toD second_)), none, none, none, none, none, none, none, none, none, none, none, none] _ _)
    exact blk_ret L trivial hr_
  · refine blk_nil ?_
    try refine Blk.nx ?_
    have ht_ := ((et_test (ev_op opx_eqI mild_ok (ev_ixTC (i := 2) (f := fun x => x.c) (ev_var (i := 2) (x := second_) rfl) (fun x => ⟨_, rfl, rfl⟩)) (ev_int (i := 0)))) : EvT K (W0 E) [some (.im (toD curve_)), some (.im (toD first_)), some (.im (toD second_)), none, none, none, none, none, none, none, none, none, none, none, none] _ _)
    refine blk_seq (blk_if2 L trivial ht_ ?_ ?_)
    · have hr_ := ((ev_var (i := 1) (x := first_) rfl) : EvX K (W0 E) [some (.im (toD curve_)), some (.im (toD first_)), some (.im (toD second_)), none, none, none, none, none, none, none, none, none, none, none, none] _ _)
      exact blk_ret L trivial hr_
    · refine blk_nil ?_
      try refine Blk.nx ?_
      have hs_ := ((ev_fld (g := fun (x : O_Curve) => x.f_prime) (c := "Curve") (ks := ["prime", "a", "b"]) (j := 0) (ev_var (i := 0) (x := curve_) rfl) T.cl_Curve T.nf_Curve_prime (by decide +kernel) (fun _ => ⟨_, rfl, rfl⟩)) : EvX K (W0 E) [some (.im (toD curve_)), some (.im (toD first_)), some (.im (toD second_)), none, none, none, none, none, none, none, none, none, none, none, none] _ _)
      refine blk_seq (blk_set (i := 3) L trivial hs_ fun p_ => ?_)
      show Blk _ _ _ _ _ [some (.im (toD curve_)), some (.im (toD first_)), some (.im (toD second_)), some (.im (toD p_)), none, none, none, none, none, none, none, none, none, none, none] _
      try refine Blk.nx ?_
      have hs_ := ((ev_call (f := (fun (p : (T3 Int Int Int) × Int × Int × Unit) => m_u_scaled p.1 p.2.1 p.2.2.1)) (ea_cons (ev_var (i := 1) (x := first_) rfl) (ea_cons (ev_ixTC (i := 2) (f := fun x => x.c) (ev_var (i := 2) (x := second_) rfl) (fun x => ⟨_, rfl, rfl⟩)) (ea_cons (ev_var (i := 3) (x := p_) rfl) ea_nil)))) : EvX K (W0 E) [some (.im (toD curve_)), some (.im (toD first_)), some (.im (toD second_)), some (.im (toD p_)), none, none, none, none, none, none, none, none, none, none, none] _ _)
      refine blk_seq (blk_asg L trivial hs_ (fun _ => (gx_tup (gxs_cons gx_name (gxs_cons gx_name gxs_nil)) rfl)) fun u220 => ?_)
      show Blk _ _ _ _ _ [some (.im (toD curve_)), some (.im (toD first_)), some (.im (toD second_)), some (.im (toD p_)), some (.im (toD u220.a)), some (.im (toD u220.b)), none, none, none, none, none, none, none, none, none] ((fun (u1_ : Int) (s1_ : Int) => _) u220.a u220.b)
      generalize u220.a = u1_
      generalize u220.b = s1_
      show Blk _ _ _ _ _ [some (.im (toD curve_)), some (.im (toD first_)), some (.im (toD second_)), some (.im (toD p_)), some (.im (toD u1_)), some (.im (toD s1_)), none, none, none, none, none, none, none, none, none] _
      try refine Blk.nx ?_
      have hs_ := ((ev_call (f := (fun (p : (T3 Int Int Int) × Int × Int × Unit) => m_u_scaled p.1 p.2.1 p.2.2.1)) (ea_cons (ev_var (i := 2) (x := second_) rfl) (ea_cons (ev_ixTC (i := 2) (f := fun x => x.c) (ev_var (i := 1) (x := first_) rfl) (fun x => ⟨_, rfl, rfl⟩)) (ea_cons (ev_var (i := 3) (x := p_) rfl) ea_nil)))) : EvX K (W0 E) [some (.im (toD curve_)), some (.im (toD first_)), some (.im (toD second_)), some (.im (toD p_)), some (.im (toD u1_)), some (.im (toD s1_)), none, none, none, none, none, none, none, none, none] _ _)
      refine blk_seq (blk_asg L trivial hs_ (fun _ => (gx_tup (gxs_cons gx_name (gxs_cons gx_name gxs_nil)) rfl)) fun u229 => ?_)
      show Blk _ _ _ _ _ [some (.im (toD curve_)), some (.im (toD first_)), some (.im (toD second_)), some (.im (toD p_)), some (.im (toD u1_)), some (.im (toD s1_)), some (.im (toD u229.a)), some (.im (toD u229.b)), none, none, none, none, none, none, none] ((fun (u2_ : Int) (s2_ : Int) => _) u229.a u229.b)
      generalize u229.a = u2_
      generalize u229.b = s2_
      show Blk _ _ _ _ _ [some (.im (toD curve_)), some (.im (toD first_)), some (.im (toD second_)), some (.im (toD p_)), some (.im (toD u1_)), some (.im (toD s1_)), some (.im (toD u2_)), some (.im (toD s2_)), none, none, none, none, none, none, none] _
      try refine Blk.nx ?_
      have ht_ := ((et_test (ev_op opx_eqI mild_ok (ev_var (i := 4) (x := u1_) rfl) (ev_var (i := 6) (x := u2_) rfl))) : EvT K (W0 E) [some (.im (toD curve_)), some (.im (toD first_)), some (.im (toD second_)), some (.im (toD p_)), some (.im (toD u1_)), some (.im (toD s1_)), some (.im (toD u2_)), some (.im (toD s2_)), none, none, none, none, none, none, none] _ _)
      refine blk_seq (blk_if2 L trivial ht_ ?_ ?_)
      · have hr_ := ((ev_if (et_test (ev_op opx_eqI mild_ok (ev_var (i := 5) (x := s1_) rfl) (ev_var (i := 7) (x := s2_) rfl))) (ev_call (f := (fun (p : O_Curve × (T3 Int Int Int) × Unit) => m_double_jacobian p.1 p.2.1)) (ea_cons (ev_var (i := 0) (x := curve_) rfl) (ea_cons (ev_var (i := 1) (x := first_) rfl) ea_nil))) (ev_con T.c_INFINITY)) : EvX K (W0 E) [some (.im (toD curve_)), some (.im (toD first_)), some (.im (toD second_)), some (.im (toD p_)), some (.im (toD u1_)), some (.im (toD s1_)), some (.im (toD u2_)), some (.im (toD s2_)), none, none, none, none, none, none, none] _ _)
        exact blk_ret L trivial hr_
      · refine blk_nil ?_
        try refine Blk.nx ?_
        have hs_ := ((ev_op (opx_I0 (g := fun i j => i - j)) mild_ok (ev_var (i := 6) (x := u2_) rfl) (ev_var (i := 4) (x := u1_) rfl)) : EvX K (W0 E) [some (.im (toD curve_)), some (.im (toD first_)), some (.im (toD second_)), some (.im (toD p_)), some (.im (toD u1_)), some (.im (toD s1_)), some (.im (toD u2_)), some (.im (toD s2_)), none, none, none, none, none, none, none] _ _)
        refine blk_seq (blk_set (i := 8) L trivial hs_ fun h_ => ?_)
        show Blk _ _ _ _ _ [some (.im (toD curve_)), some (.im (toD first_)), some (.im (toD second_)), some (.im (toD p_)), some (.im (toD u1_)), some (.im (toD s1_)), some (.im (toD u2_)), some (.im (toD s2_)), some (.im (toD h_)), none, none, none, none, none, none] _
        try refine Blk.nx ?_
        have hs_ := ((ev_op (opx_I0 (g := fun i j => i - j)) mild_ok (ev_var (i := 7) (x := s2_) rfl) (ev_var (i := 5) (x := s1_) rfl)) : EvX K (W0 E) [some (.im (toD curve_)), some (.im (toD first_)), some (.im (toD second_)), some (.im (toD p_)), some (.im (toD u1_)), some (.im (toD s1_)), some (.im (toD u2_)), some (.im (toD s2_)), some (.im (toD h_)), none, none, none, none, none, none] _ _)
        refine blk_seq (blk_set (i := 9) L trivial hs_ fun r_ => ?_)
        show Blk _ _ _ _ _ [some (.im (toD curve_)), some (.im (toD first_)), some (.im (toD second_)), some (.im (toD p_)), some (.im (toD u1_)), some (.im (toD s1_)), some (.im (toD u2_)), some (.im (toD s2_)), some (.im (toD h_)), some (.im (toD r_)), none, none, none, none, none] _
        try refine Blk.nx ?_
        have hs_ := ((ev_op (opx_I (C := (fun _ j => 0 < j)) (g := fun i j => i % j)) mild_need (ev_op (opx_I (C := CMulX) (g := fun i j => i * j)) mild_need (ev_var (i := 8) (x := h_) rfl) (ev_var (i := 8) (x := h_) rfl)) (ev_var (i := 3) (x := p_) rfl)) : EvX K (W0 E) [some (.im (toD curve_)), some (.im (toD first_)), some (.im (toD second_)), some (.im (toD p_)), some (.im (toD u1_)), some (.im (toD s1_)), some (.im (toD u2_)), some (.im (toD s2_)), some (.im (toD h_)), some (.im (toD r_)), none, none, none, none, none] _ _)
        refine blk_seq (blk_set (i := 10) L trivial hs_ fun h_square_ => ?_)
        show Blk _ _ _ _ _ [some (.im (toD curve_)), some (.im (toD first_)), some (.im (toD second_)), some (.im (toD p_)), some (.im (toD u1_)), some (.im (toD s1_)), some (.im (toD u2_)), some (.im (toD s2_)), some (.im (toD h_)), some (.im (toD r_)), some (.im (toD h_square_)), none, none, none, none] _
        try refine Blk.nx ?_
        have hs_ := ((ev_op (opx_I (C := (fun _ j => 0 < j)) (g := fun i j => i % j)) mild_need (ev_op (opx_I (C := CMulX) (g := fun i j => i * j)) mild_need (ev_var (i := 8) (x := h_) rfl) (ev_var (i := 10) (x := h_square_) rfl)) (ev_var (i := 3) (x := p_) rfl)) : EvX K (W0 E) [some (.im (toD curve_)), some (.im (toD first_)), some (.im (toD second_)), some (.im (toD p_)), some (.im (toD u1_)), some (.im (toD s1_)), some (.im (toD u2_)), some (.im (toD s2_)), some (.im (toD h_)), some (.im (toD r_)), some (.im (toD h_square_)), none, none, none, none] _ _)
        refine blk_seq (blk_set (i := 11) L trivial hs_ fun h_cube_ => ?_)
        show Blk _ _ _ _ _ [some (.im (toD curve_)), some (.im (toD first_)), some (.im (toD second_)), some (.im (toD p_)), some (.im (toD u1_)), some (.im (toD s1_)), some (.im (toD u2_)), some (.im (toD s2_)), some (.im (toD h_)), some (.im (toD r_)), some (.im (toD h_square_)), some (.im (toD h_cube_)), none, none, none] _
        try refine Blk.nx ?_
        have hs_ := ((ev_op (opx_I (C := (fun _ j => 0 < j)) (g := fun i j => i % j)) mild_need (ev_op (opx_I (C := CMulX) (g := fun i j => i * j)) mild_need (ev_var (i := 4) (x := u1_) rfl) (ev_var (i := 10) (x := h_square_) rfl)) (ev_var (i := 3) (x := p_) rfl)) : EvX K (W0 E) [some (.im (toD curve_)), some (.im (toD first_)), some (.im (toD second_)), some (.im (toD p_)), some (.im (toD u1_)), some (.im (toD s1_)), some (.im (toD u2_)), some (.im (toD s2_)), some (.im (toD h_)), some (.im (toD r_)), some (.im (toD h_square_)), some (.im (toD h_cube_)), none, none, none] _ _)
        refine blk_seq (blk_set (i := 12) L trivial hs_ fun v_ => ?_)
        show Blk _ _ _ _ _ [some (.im (toD curve_)), some (.im (toD first_)), some (.im (toD second_)), some (.im (toD p_)), some (.im (toD u1_)), some (.im (toD s1_)), some (.im (toD u2_)), some (.im (toD s2_)), some (.im (toD h_)), some (.im (toD r_)), some (.im (toD h_square_)), some (.im (toD h_cube_)), some (.im (toD v_)), none, none] _
        try refine Blk.nx ?_
        have hs_ := ((ev_op (opx_I (C := (fun _ j => 0 < j)) (g := fun i j => i % j)) mild_need (ev_op (opx_I0 (g := fun i j => i - j)) mild_ok (ev_op (opx_I0 (g := fun i j => i - j)) mild_ok (ev_op (opx_I (C := CMulX) (g := fun i j => i * j)) mild_need (ev_var (i := 9) (x := r_) rfl) (ev_var (i := 9) (x := r_) rfl)) (ev_var (i := 11) (x := h_cube_) rfl)) (ev_opI (C := CMul) (g := fun i j => i * j) (fun x y h _ => by cases h; exact .inl (by decide)) (ev_int (i := 2)) (ev_var (i := 12) (x := v_) rfl))) (ev_var (i := 3) (x := p_) rfl)) : EvX K (W0 E) [some (.im (toD curve_)), some (.im (toD first_)), some (.im (toD second_)), some (.im (toD p_)), some (.im (toD u1_)), some (.im (toD s1_)), some (.im (toD u2_)), some (.im (toD s2_)), some (.im (toD h_)), some (.im (toD r_)), some (.im (toD h_square_)), some (.im (toD h_cube_)), some (.im (toD v_)), none, none] _ _)
        refine blk_seq (blk_set (i := 13) L trivial hs_ fun x3_ => ?_)
        show Blk _ _ _ _ _ [some (.im (toD curve_)), some (.im (toD first_)), some (.im (toD second_)), some (.im (toD p_)), some (.im (toD u1_)), some (.im (toD s1_)), some (.im (toD u2_)), some (.im (toD s2_)), some (.im (toD h_)), some (.im (toD r_)), some (.im (toD h_square_)), some (.im (toD h_cube_)), some (.im (toD v_)), some (.im (toD x3_)), none] _
        try refine Blk.nx ?_
        have hs_ := ((ev_op (opx_I (C := (fun _ j => 0 < j)) (g := fun i j => i % j)) mild_need (ev_op (opx_I0 (g := fun i j => i - j)) mild_ok (ev_op (opx_I (C := CMulX) (g := fun i j => i * j)) mild_need (ev_var (i := 9) (x := r_) rfl) (ev_op (opx_I0 (g := fun i j => i - j)) mild_ok (ev_var (i := 12) (x := v_) rfl) (ev_var (i := 13) (x := x3_) rfl))) (ev_op (opx_I (C := CMulX) (g := fun i j => i * j)) mild_need (ev_var (i := 5) (x := s1_) rfl) (ev_var (i := 11) (x := h_cube_) rfl))) (ev_var (i := 3) (x := p_) rfl)) : EvX K (W0 E) [some (.im (toD curve_)), some (.im (toD first_)), some (.im (toD second_)), some (.im (toD p_)), some (.im (toD u1_)), some (.im (toD s1_)), some (.im (toD u2_)), some (.im (toD s2_)), some (.im (toD h_)), some (.im (toD r_)), some (.im (toD h_square_)), some (.im (toD h_cube_)), some (.im (toD v_)), some (.im (toD x3_)), none] _ _)
        refine blk_seq (blk_set (i := 14) L trivial hs_ fun y3_ => ?_)
        show Blk _ _ _ _ _ [some (.im (toD curve_)), some (.im (toD first_)), some (.im (toD second_)), some (.im (toD p_)), some (.im (toD u1_)), some (.im (toD s1_)), some (.im (toD u2_)), some (.im (toD s2_)), some (.im (toD h_)), some (.im (toD r_)), some (.im (toD h_square_)), some (.im (toD h_cube_)), some (.im (toD v_)), some (.im (toD x3_)), some (.im (toD y3_))] _
        try refine Blk.nx ?_
        have hr_ := ((ev_tup (f := (fun y => T3.mk y.1 y.2.1 y.2.2.1)) (ea_cons (ev_var (i := 13) (x := x3_) rfl) (ea_cons (ev_var (i := 14) (x := y3_) rfl) (ea_cons (ev_op (opx_I (C := (fun _ j => 0 < j)) (g := fun i j => i % j)) mild_need (ev_op (opx_I (C := CMulX) (g := fun i j => i * j)) mild_need (ev_op (opx_I (C := CMulX) (g := fun i j => i * j)) mild_need (ev_var (i := 8) (x := h_) rfl) (ev_ixTC (i := 2) (f := fun x => x.c) (ev_var (i := 1) (x := first_) rfl) (fun x => ⟨_, rfl, rfl⟩))) (ev_ixTC (i := 2) (f := fun x => x.c) (ev_var (i := 2) (x := second_) rfl) (fun x => ⟨_, rfl, rfl⟩))) (ev_var (i := 3) (x := p_) rfl)) ea_nil))) (fun _ => rfl) (fun _ => by show 3 ≤ 100000; decide)) : EvX K (W0 E) [some (.im (toD curve_)), some (.im (toD first_)), some (.im (toD second_)), some (.im (toD p_)), some (.im (toD u1_)), some (.im (toD s1_)), some (.im (toD u2_)), some (.im (toD s2_)), some (.im (toD h_)), some (.im (toD r_)), some (.im (toD h_square_)), some (.im (toD h_cube_)), some (.im (toD v_)), some (.im (toD x3_)), some (.im (toD y3_))] _ _)
        exact blk_ret L trivial hr_
noncomputable def m_same_point (curve_ : O_Curve) (first_ : (T3 Int Int Int)) (second_ : (T3 Int Int Int)) : Res Bool :=
  (((((Res.ok first_)).bind fun (t291 : (T3 Int Int Int)) => Res.ok t291.c).bind fun (t292 : Int) => ((Res.ok (0 : Int))).bind fun (t293 : Int) => Res.ok (decide (t292 = t293))).bind fun b297 => cond b297 (Res.ok true) ((((Res.ok second_)).bind fun (t294 : (T3 Int Int Int)) => Res.ok t294.c).bind fun (t295 : Int) => ((Res.ok (0 : Int))).bind fun (t296 : Int) => Res.ok (decide (t295 = t296)))).bind fun b => cond b   ((((Res.ok first_)).bind fun (t298 : (T3 Int Int Int)) => Res.ok t298.c).bind fun (t300 : Int) => (((Res.ok second_)).bind fun (t299 : (T3 Int Int Int)) => Res.ok t299.c).bind fun (t301 : Int) => Res.ok (decide (t300 = t301)))   (((((Res.ok first_)).bind fun a305 => ((((Res.ok second_)).bind fun (t302 : (T3 Int Int Int)) => Res.ok t302.c).bind fun a307 => ((((Res.ok curve_)).bind fun (t303 : O_Curve) => Res.ok t303.f_prime).bind fun a309 => (Res.ok ()).bind fun a310 => Res.ok (a309, a310)).bind fun a308 => Res.ok (a307, a308)).bind fun a306 => Res.ok (a305, a306)).bind fun p304 => m_u_scaled p304.1 p304.2.1 p304.2.2.1).bind fun (t320 : (T2 Int Int)) => ((((Res.ok second_)).bind fun a314 => ((((Res.ok first_)).bind fun (t311 : (T3 Int Int Int)) => Res.ok t311.c).bind fun a316 => ((((Res.ok curve_)).bind fun (t312 : O_Curve) => Res.ok t312.f_prime).bind fun a318 => (Res.ok ()).bind fun a319 => Res.ok (a318, a319)).bind fun a317 => Res.ok (a316, a317)).bind fun a315 => Res.ok (a314, a315)).bind fun p313 => m_u_scaled p313.1 p313.2.1 p313.2.2.1).bind fun (t321 : (T2 Int Int)) => Res.need ((toD t320).okq = true ∧ (toD t321).okq = true) (Res.ok (pyEq (toD t320) (toD t321))))
theorem ok_same_point {P : Program} {w : World} {K : PySem.W.Frag} {mg : Str → Option Value} {base : Heap} (T : Facts K mg) {fd : FuncData} (F : FnP K "same_point" "same_point" s_same_point (He.ga K "same_point") fd) :
    FnOk P w K mg base (L2.CX P w) 2 (He.ga K "same_point") fd ["curve", "first", "second"] (spM K (fun (p : O_Curve × (T3 Int Int Int) × (T3 Int Int Int) × Unit) => m_same_point p.1 p.2.1 p.2.2.1)) := by
  obtain ⟨fd_u_scaled, F_u_scaled⟩ := T.d_u_scaled
  have G_u_scaled := ok_u_scaled (P := P) (w := w) (base := base) T F_u_scaled
  have b_u_scaled : Binds K fd_u_scaled ["triple", "z", "prime"] [] := F_u_scaled.bindsN fun _ _ _ _ _ _ us hl => match us, hl with | [_, _, _], _ => rfl
  refine fn_ok F sc_same_point (fun y => rfl) (fun cdv A outer s H E hr => ?_)
  refine ⟨_, (pss_cons (ps_if (PW.pt (pw_or (pt_cmpR op_eq (pe_ix (cr_ixT rfl) (pv 1) pe_int (fun _ _ => rfl)) pe_int (nomark _)) (pw_or1 (pt_cmpR op_eq (pe_ix (cr_ixT rfl) (pv 2) pe_int (fun _ _ => rfl)) pe_int (nomark _))))) (pss_one (ps_ret (pe_cmpR op_eq (pe_ix (cr_ixT rfl) (pv 1) pe_int (fun _ _ => rfl)) (pe_ix (cr_ixT rfl) (pv 2) pe_int (fun _ _ => rfl)) (nomark _)))) pss_nil) (pss_one (ps_ret (pe_cmpR (op_eqD (Room.units hr)) (pe_callS G_u_scaled (hr.mono (by decide)) rfl T.g_u_scaled F_u_scaled.kp b_u_scaled (fun σ => passAt (takes_of rfl rfl rfl rfl) σ) (pa_cons (pv 1) (pa_cons (pe_ix (cr_ixT rfl) (pv 2) pe_int (fun _ _ => rfl)) (pa_cons (pe_fld (pv 0) rfl) pa_nil)))) (pe_callS G_u_scaled (hr.mono (by decide)) rfl T.g_u_scaled F_u_scaled.kp b_u_scaled (fun σ => passAt (takes_of rfl rfl rfl rfl) σ) (pa_cons (pv 2) (pa_cons (pe_ix (cr_ixT rfl) (pv 1) pe_int (fun _ _ => rfl)) (pa_cons (pe_fld (pv 0) rfl) pa_nil)))) (nomark _))))), ?_⟩
  rintro ⟨curve_, first_, second_, ⟨⟩⟩ F0 H0 Q KP L
  show Blk K F0 H0 KP _ [some (.im (toD curve_)), some (.im (toD first_)), some (.im (toD second_))] (m_same_point curve_ first_ second_)
  unfold m_same_point
  have ht_ := ((et_or (et_test (ev_op opx_eqI mild_ok (ev_ixTC (i := 2) (f := fun x => x.c) (ev_var (i := 1) (x := first_) rfl) (fun x => ⟨_, rfl, rfl⟩)) (ev_int (i := 0)))) (et_test (ev_op opx_eqI mild_ok (ev_ixTC (i := 2) (f := fun x => x.c) (ev_var (i := 2) (x := second_) rfl) (fun x => ⟨_, rfl, rfl⟩)) (ev_int (i := 0))))) : EvT K (W0 E) [some (.im (toD curve_)), some (.im (toD first_)), some (.im (toD second_))] _ _)
  refine blk_seq (blk_if2 L trivial ht_ ?_ ?_)
  · have hr_ := ((ev_op opx_eqI mild_ok (ev_ixTC (i := 2) (f := fun x => x.c) (ev_var (i := 1) (x := first_) rfl) (fun x => ⟨_, rfl, rfl⟩)) (ev_ixTC (i := 2) (f := fun x => x.c) (ev_var (i := 2) (x := second_) rfl) (fun x => ⟨_, rfl, rfl⟩))) : EvX K (W0 E) [some (.im (toD curve_)), some (.im (toD first_)), some (.im (toD second_))] _ _)
    exact blk_ret L trivial hr_
  · refine blk_nil ?_
    try refine Blk.nx ?_
    have hr_ := ((ev_op opx_eqD mild_need (ev_call (f := (fun (p : (T3 Int Int Int) × Int × Int × Unit) => m_u_scaled p.1 p.2.1 p.2.2.1)) (ea_cons (ev_var (i := 1) (x := first_) rfl) (ea_cons (ev_ixTC (i := 2) (f := fun x => x.c) (ev_var (i := 2) (x := second_) rfl) (fun x => ⟨_, rfl, rfl⟩)) (ea_cons (ev_fld (g := fun (x : O_Curve) => x.f_prime) (c := "Curve") (ks := ["prime", "a", "b"]) (j := 0) (ev_var (i := 0) (x := curve_) rfl) T.cl_Curve T.nf_Curve_prime (by decide +kernel) (fun _ => ⟨_, rfl, rfl⟩)) ea_nil)))) (ev_call (f := (fun (p : (T3 Int Int Int) × Int × Int × Unit) => m_u_scaled p.1 p.2.1 p.2.2.1)) (ea_cons (ev_var (i := 2) (x := second_) rfl) (ea_cons (ev_ixTC (i := 2) (f := fun x => x.c) (ev_var (i := 1) (x := first_) rfl) (fun x => ⟨_, rfl, rfl⟩)) (ea_cons (ev_fld (g := fun (x : O_Curve) => x.f_prime) (c := "Curve") (ks := ["prime", "a", "b"]) (j := 0) (ev_var (i := 0) (x := curve_) rfl) T.cl_Curve T.nf_Curve_prime (by decide +kernel) (fun _ => ⟨_, rfl, rfl⟩)) ea_nil))))) : EvX K (W0 E) [some (.im (toD curve_)), some (.im (toD first_)), some (.im (toD second_))] _ _)
    exact blk_ret L trivial hr_
noncomputable def m_Curve_init (prime_ : Int) (a_ : Int) (b_ : Int) : Res O_Curve :=
  ((((Res.ok prime_)).bind fun (t322 : Int) => ((Res.ok (5 : Int))).bind fun (t323 : Int) => Res.ok (decide (t322 < t323))).bind fun b328 => cond b328 (Res.ok true) ((((Res.ok prime_)).bind fun (t324 : Int) => ((Res.ok (2 : Int))).bind fun (t325 : Int) => Res.ok (t324 % t325)).bind fun (t326 : Int) => ((Res.ok (0 : Int))).bind fun (t327 : Int) => Res.ok (decide (t326 = t327)))).bind fun b => cond b   (Res.exc "OutOfRange")   (((Res.ok prime_)).bind fun (sf_prime : Int) =>   (((Res.ok a_)).bind fun (t329 : Int) => ((Res.ok prime_)).bind fun (t330 : Int) => Res.need (0 < t330) (Res.ok (t329 % t330))).bind fun (sf_a : Int) =>   (((Res.ok b_)).bind fun (t331 : Int) => ((Res.ok prime_)).bind fun (t332 : Int) => Res.need (0 < t332) (Res.ok (t331 % t332))).bind fun (sf_b : Int) =>   ((((((Res.ok (4 : Int))).bind fun (t335 : Int) => (((Res.ok sf_a)).bind fun (t333 : Int) => ((Res.ok (3 : Int))).bind fun (t334 : Int) => Res.need (CPowX t333 t334) (Res.ok (t333 ^ t334.toNat))).bind fun (t336 : Int) => Res.ok (t335 * t336)).bind fun (t341 : Int) => (((Res.ok (27 : Int))).bind fun (t339 : Int) => (((Res.ok sf_b)).bind fun (t337 : Int) => ((Res.ok (2 : Int))).bind fun (t338 : Int) => Res.need (CPowX t337 t338) (Res.ok (t337 ^ t338.toNat))).bind fun (t340 : Int) => Res.ok (t339 * t340)).bind fun (t342 : Int) => Res.ok (t341 + t342)).bind fun (t343 : Int) => ((Res.ok prime_)).bind fun (t344 : Int) => Res.need (0 < t344) (Res.ok (t343 % t344))).bind fun (t345 : Int) => ((Res.ok (0 : Int))).bind fun (t346 : Int) => Res.ok (decide (t345 = t346))).bind fun b => cond b   (Res.exc "Refused")   (Res.ok (O_Curve.mk sf_prime sf_a sf_b)))
theorem ok_Curve_init {P : Program} {w : World} {K : PySem.W.Frag} {mg : Str → Option Value} {base : Heap} (T : Facts K mg) {fd : FuncData} (F : FnP K "__init__" "Curve.__init__" s_Curve_init (He.ma K (He.ga K "Curve") "__init__") fd) :
    FnOk P w K mg base (L2.CX P w) 1 (He.ma K (He.ga K "Curve") "__init__") fd ["self", "prime", "a", "b"] (spI K "Curve" (fun (p : Int × Int × Int × Unit) => m_Curve_init p.1 p.2.1 p.2.2.1)) := by
  refine fn_okI (c := "Curve") F sc_Curve_init (fun y => rfl) (fun cdv A outer s H E hr => ?_)
  refine ⟨_, (pss_cons (ps_if (PW.pt (pw_or (pt_cmpR op_lt (pv 1) pe_int (nomark _)) (pw_or1 (pt_cmpR op_eq (pe_op op_mod (pv 1) pe_int) pe_int (nomark _))))) (pss_one (ps_raise rfl (takes_of rfl rfl rfl rfl) (pmk_own PySem.F.excBase_ValueError T.x_OutOfRange T.g_OutOfRange T.k_OutOfRange (raises_own T.b_OutOfRange T.t_OutOfRange) rfl))) pss_nil) (pss_cons (ps_fld (pv 0) (pv 1) rfl) (pss_cons (ps_fld (pv 0) (pe_op op_mod (pv 2) (pv 1)) rfl) (pss_cons (ps_fld (pv 0) (pe_op op_mod (pv 3) (pv 1)) rfl) (pss_one (ps_if (pt_cmpR op_eq (pe_op op_mod (pe_op op_add (pe_op op_mul pe_int (pe_op op_powX (pe_fld (pv 0) rfl) pe_int)) (pe_op op_mul pe_int (pe_op op_powX (pe_fld (pv 0) rfl) pe_int))) (pv 1)) pe_int (nomark _)) (pss_one (ps_raise rfl (takes_of rfl rfl rfl rfl) (pmk_own PySem.F.excBase_ValueError T.x_Refused T.g_Refused T.k_Refused (raises_own T.b_Refused T.t_Refused) rfl))) pss_nil)))))), ?_⟩
  rintro ⟨prime_, a_, b_, ⟨⟩⟩ p_ F0 H0 Q KP L
  show Blk K F0 H0 KP _ [some (.oi (some p_) "Curve" [] []), some (.im (toD prime_)), some (.im (toD a_)), some (.im (toD b_))] (m_Curve_init prime_ a_ b_)
  unfold m_Curve_init
  have ht_ := ((et_or (et_test (ev_op (opx_B0 (g := fun i j => decide (i < j))) mild_ok (ev_var (i := 1) (x := prime_) rfl) (ev_int (i := 5)))) (et_test (ev_op opx_eqI mild_ok (ev_opI (C := (fun _ j => 0 < j)) (g := fun i j => i % j) (fun x y _ h => by cases h; (show (0 : Int) < _; decide)) (ev_var (i := 1) (x := prime_) rfl) (ev_int (i := 2))) (ev_int (i := 0))))) : EvT K (W0 E) [some (.oi (some p_) "Curve" [] []), some (.im (toD prime_)), some (.im (toD a_)), some (.im (toD b_))] _ _)
  refine blk_seq (blk_if2 L trivial ht_ ?_ ?_)
  · exact blk_raise L trivial
  · refine blk_nil ?_
    try refine Blk.nx ?_
    have hs_ := ((ev_var (i := 1) (x := prime_) rfl) : EvX K (W0 E) [some (.oi (some p_) "Curve" [] []), some (.im (toD prime_)), some (.im (toD a_)), some (.im (toD b_))] _ _)
    refine blk_seq (blk_fldN (i := 0) L trivial hs_ rfl T.cl_Curve T.nf_Curve_prime (by decide +kernel) (by decide) fun sf_prime => ?_)
    show Blk _ _ _ _ _ [some (.oi (some p_) "Curve" ["prime"] [toD sf_prime]), some (.im (toD prime_)), some (.im (toD a_)), some (.im (toD b_))] _
    try refine Blk.nx ?_
    have hs_ := ((ev_op (opx_I (C := (fun _ j => 0 < j)) (g := fun i j => i % j)) mild_need (ev_var (i := 2) (x := a_) rfl) (ev_var (i := 1) (x := prime_) rfl)) : EvX K (W0 E) [some (.oi (some p_) "Curve" ["prime"] [toD sf_prime]), some (.im (toD prime_)), some (.im (toD a_)), some (.im (toD b_))] _ _)
    refine blk_seq (blk_fldN (i := 0) L trivial hs_ rfl T.cl_Curve T.nf_Curve_a (by decide +kernel) (by decide) fun sf_a => ?_)
    show Blk _ _ _ _ _ [some (.oi (some p_) "Curve" ["prime", "a"] [toD sf_prime, toD sf_a]), some (.im (toD prime_)), some (.im (toD a_)), some (.im (toD b_))] _
    try refine Blk.nx ?_
    have hs_ := ((ev_op (opx_I (C := (fun _ j => 0 < j)) (g := fun i j => i % j)) mild_need (ev_var (i := 3) (x := b_) rfl) (ev_var (i := 1) (x := prime_) rfl)) : EvX K (W0 E) [some (.oi (some p_) "Curve" ["prime", "a"] [toD sf_prime, toD sf_a]), some (.im (toD prime_)), some (.im (toD a_)), some (.im (toD b_))] _ _)
    refine blk_seq (blk_fldN (i := 0) L trivial hs_ rfl T.cl_Curve T.nf_Curve_b (by decide +kernel) (by decide) fun sf_b => ?_)
    show Blk _ _ _ _ _ [some (.oi (some p_) "Curve" ["prime", "a", "b"] [toD sf_prime, toD sf_a, toD sf_b]), some (.im (toD prime_)), some (.im (toD a_)), some (.im (toD b_))] _
    try refine Blk.nx ?_
    have ht_ := ((et_test (ev_op opx_eqI mild_ok (ev_op (opx_I (C := (fun _ j => 0 < j)) (g := fun i j => i % j)) mild_need (ev_op (opx_I0 (g := fun i j => i + j)) mild_ok (ev_opI (C := CMul) (g := fun i j => i * j) (fun x y h _ => by cases h; exact .inl (by decide)) (ev_int (i := 4)) (ev_op (opx_I (C := CPowX) (g := fun i j => i ^ j.toNat)) mild_need (ev_fldO (i := 0) (j := 1) (x := sf_a) rfl T.cl_Curve T.nf_Curve_a (by decide +kernel) rfl) (ev_int (i := 3)))) (ev_opI (C := CMul) (g := fun i j => i * j) (fun x y h _ => by cases h; exact .inl (by decide)) (ev_int (i := 27)) (ev_op (opx_I (C := CPowX) (g := fun i j => i ^ j.toNat)) mild_need (ev_fldO (i := 0) (j := 2) (x := sf_b) rfl T.cl_Curve T.nf_Curve_b (by decide +kernel) rfl) (ev_int (i := 2))))) (ev_var (i := 1) (x := prime_) rfl)) (ev_int (i := 0)))) : EvT K (W0 E) [some (.oi (some p_) "Curve" ["prime", "a", "b"] [toD sf_prime, toD sf_a, toD sf_b]), some (.im (toD prime_)), some (.im (toD a_)), some (.im (toD b_))] _ _)
    refine blk_if2 L trivial ht_ ?_ ?_
    · exact blk_raise L trivial
    · refine blk_nil ?_
      try refine Blk.nx ?_
      exact blk_finI (i := 0) L rfl rfl
noncomputable def m_u_law_cell (script_ : (List Int)) (k_ : Int) : Res Int :=
  (((Res.ok k_)).bind fun (t350 : Int) => ((((Res.ok script_)).bind fun a348 => (Res.ok ()).bind fun a349 => Res.ok (a348, a349)).bind fun p347 => Res.ok ((p347.1).length : Int)).bind fun (t351 : Int) => Res.ok (decide (t350 < t351))).bind fun b => cond b   (((((Res.ok script_)).bind fun (t352 : (List Int)) => ((Res.ok k_)).bind fun (t353 : Int) => idx t352 t353).bind fun a355 => (Res.ok ()).bind fun a356 => Res.ok (a355, a356)).bind fun p354 => Res.ok p354.1)   ((Res.ok (0 : Int)))
theorem ok_u_law_cell {P : Program} {w : World} {K : PySem.W.Frag} {mg : Str → Option Value} {base : Heap} (T : Facts K mg) {fd : FuncData} (F : FnP K "_law_cell" "_law_cell" s_u_law_cell (He.ga K "_law_cell") fd) :
    FnOk P w K mg base (L2.CX P w) 1 (He.ga K "_law_cell") fd ["script", "k"] (spM K (fun (p : (List Int) × Int × Unit) => m_u_law_cell p.1 p.2.1)) := by
  refine fn_ok F sc_u_law_cell (fun y => rfl) (fun cdv A outer s H E hr => ?_)
  refine ⟨_, (pss_cons (ps_if (pt_cmpR op_lt (pv 1) (pe_callB (cr_len rfl) (by rfl) T.n_len (by decide +kernel) (pa_cons (pv 0) pa_nil)) (nomark _)) (pss_one (ps_ret (pe_callTy call_int1 (by rfl) T.n_int (by decide +kernel) (pa_cons (pe_ix (cr_ixL rfl) (pv 0) (pv 1) (fun _ _ => rfl)) pa_nil)))) pss_nil) (pss_one (ps_ret pe_int))), ?_⟩
  rintro ⟨script_, k_, ⟨⟩⟩ F0 H0 Q KP L
  show Blk K F0 H0 KP _ [some (.im (toD script_)), some (.im (toD k_))] (m_u_law_cell script_ k_)
  unfold m_u_law_cell
  have ht_ := ((et_test (ev_op (opx_B0 (g := fun i j => decide (i < j))) mild_ok (ev_var (i := 1) (x := k_) rfl) (ev_cb cx_len (fun _ _ h => nomatch h) (ea_cons (ev_var (i := 0) (x := script_) rfl) ea_nil)))) : EvT K (W0 E) [some (.im (toD script_)), some (.im (toD k_))] _ _)
  refine blk_seq (blk_if2 L trivial ht_ ?_ ?_)
  · have hr_ := ((ev_cb cx_int (fun _ _ h => nomatch h) (ea_cons (ev_op opx_ixL (fun x y => idx_mild x y) (ev_var (i := 0) (x := script_) rfl) (ev_var (i := 1) (x := k_) rfl)) ea_nil)) : EvX K (W0 E) [some (.im (toD script_)), some (.im (toD k_))] _ _)
    exact blk_ret L trivial hr_
  · refine blk_nil ?_
    try refine Blk.nx ?_
    have hr_ := ((ev_int (i := 0)) : EvX K (W0 E) [some (.im (toD script_)), some (.im (toD k_))] _ _)
    exact blk_ret L trivial hr_
noncomputable def m_u_law_is_integer (actual_ : D) : Res Bool :=
  (((Res.ok actual_)).bind fun (t357 : D) => Res.need ((toD t357).plain = true) (Res.ok (isI "int" (toD t357)))).bind fun b360 => cond b360 ((((Res.ok actual_)).bind fun (t358 : D) => Res.need ((toD t358).plain = true) (Res.ok (isI "bool" (toD t358)))).bind fun (t359 : Bool) => Res.ok (!t359)) (Res.ok false)
theorem ok_u_law_is_integer {P : Program} {w : World} {K : PySem.W.Frag} {mg : Str → Option Value} {base : Heap} (T : Facts K mg) {fd : FuncData} (F : FnP K "_law_is_integer" "_law_is_integer" s_u_law_is_integer (He.ga K "_law_is_integer") fd) :
    FnOk P w K mg base (L2.CX P w) 1 (He.ga K "_law_is_integer") fd ["actual"] (spM K (fun (p : D × Unit) => m_u_law_is_integer p.1)) := by
  refine fn_ok F sc_u_law_is_integer (fun y => rfl) (fun cdv A outer s H E hr => ?_)
  refine ⟨_, (pss_one (ps_ret (pe_and (pe_callB call_isi (by rfl) T.n_isinstance (by decide +kernel) (pa_cons (pv 0) (pa_cons (pe_bltn (v := .ty "int") (by rfl) T.n_int (by decide +kernel) rfl) pa_nil))) (pe_one (pe_not (pe_callB call_isi (by rfl) T.n_isinstance (by decide +kernel) (pa_cons (pv 0) (pa_cons (pe_bltn (v := .ty "bool") (by rfl) T.n_bool (by decide +kernel) rfl) pa_nil)))))))), ?_⟩
  rintro ⟨actual_, ⟨⟩⟩ F0 H0 Q KP L
  show Blk K F0 H0 KP _ [some (.im (toD actual_))] (m_u_law_is_integer actual_)
  unfold m_u_law_is_integer
  have hr_ := ((ev_andV (ev_isi isi_int (ev_var (i := 0) (x := actual_) rfl)) (ev_notV (ev_isi isi_bool (ev_var (i := 0) (x := actual_) rfl)))) : EvX K (W0 E) [some (.im (toD actual_))] _ _)
  exact blk_ret L trivial hr_
noncomputable def m_u_law_is_prime_l2 (n_ : Int) (k2 : Int → Res Bool) : List Int → Int → Res Bool
  | [], s => k2 s
  | x371 :: r2, divisor_ =>   (fun (k_ : Int) => ((((Res.ok divisor_)).bind fun (t372 : Int) => ((Res.ok divisor_)).bind fun (t373 : Int) => Res.need (CMulX t372 t373) (Res.ok (t372 * t373))).bind fun (t374 : Int) => ((Res.ok n_)).bind fun (t375 : Int) => Res.ok (decide (t375 < t374))).bind fun b => cond b   ((Res.ok true))   (((((Res.ok n_)).bind fun (t376 : Int) => ((Res.ok divisor_)).bind fun (t377 : Int) => Res.need (0 < t377) (Res.ok (t376 % t377))).bind fun (t378 : Int) => ((Res.ok (0 : Int))).bind fun (t379 : Int) => Res.ok (decide (t378 = t379))).bind fun b => cond b   ((Res.ok false))   ((((Res.ok divisor_)).bind fun (t380 : Int) => ((Res.ok (2 : Int))).bind fun (t381 : Int) => Res.ok (t380 + t381)).bind fun (divisor_ : Int) =>   m_u_law_is_prime_l2 n_ k2 r2 divisor_))) x371
noncomputable def m_u_law_is_prime_k5 : Int → Res Bool := fun divisor_ =>   (Res.ok true)
noncomputable def m_u_law_is_prime (n_ : Int) : Res Bool :=
  ((Res.ok (3 : Int))).bind fun (divisor_ : Int) =>   (((((Res.ok n_)).bind fun (t361 : Int) => ((Res.ok (2 : Int))).bind fun (t362 : Int) => Res.ok (t361 % t362)).bind fun (t363 : Int) => ((Res.ok (0 : Int))).bind fun (t364 : Int) => Res.ok (decide (t363 = t364))).bind fun b367 => cond b367 (Res.ok true) (((Res.ok n_)).bind fun (t365 : Int) => ((Res.ok (3 : Int))).bind fun (t366 : Int) => Res.ok (decide (t365 < t366)))).bind fun b => cond b   (((Res.ok n_)).bind fun (t368 : Int) => ((Res.ok (2 : Int))).bind fun (t369 : Int) => Res.ok (decide (t368 = t369)))   ((((Res.ok (1024 : Int))).bind fun (t370 : Int) => Res.need (okRange t370) (Res.ok (pyRange 0 t370))).bind fun (xs382 : List Int) => m_u_law_is_prime_l2 n_ (m_u_law_is_prime_k5) xs382 divisor_)
theorem ok_u_law_is_prime {P : Program} {w : World} {K : PySem.W.Frag} {mg : Str → Option Value} {base : Heap} (T : Facts K mg) {fd : FuncData} (F : FnP K "_law_is_prime" "_law_is_prime" s_u_law_is_prime (He.ga K "_law_is_prime") fd) :
    FnOk P w K mg base (L2.CX P w) 1 (He.ga K "_law_is_prime") fd ["n"] (spM K (fun (p : Int × Unit) => m_u_law_is_prime p.1)) := by
  refine fn_ok F sc_u_law_is_prime (fun y => rfl) (fun cdv A outer s H E hr => ?_)
  refine ⟨_, (pss_cons (ps_set (i := 1) sc_u_law_is_prime.nd rfl (Or.inl rfl) pe_int) (pss_cons (ps_if (PW.pt (pw_or (pt_cmpR op_eq (pe_op op_mod (pv 0) pe_int) pe_int (nomark _)) (pw_or1 (pt_cmpR op_lt (pv 0) pe_int (nomark _))))) (pss_one (ps_ret (pe_cmpR op_eq (pv 0) pe_int (nomark _)))) pss_nil) (pss_cons (ps_for (passes_of rfl) rfl (pi_range1 rfl T.n_range (pa_cons pe_int pa_nil)) (pg_name (i := 2) sc_u_law_is_prime.nd rfl (Or.inl rfl)) (pss_cons (ps_if (pt_cmpR op_gt (pe_op op_mulX (pv 1) (pv 1)) (pv 0) (nomark _)) (pss_one (ps_ret pe_bl)) pss_nil) (pss_cons (ps_if (pt_cmpR op_eq (pe_op op_mod (pv 0) (pv 1)) pe_int (nomark _)) (pss_one (ps_ret pe_bl)) pss_nil) (pss_one (ps_set (i := 1) sc_u_law_is_prime.nd rfl (Or.inl rfl) (pe_op op_add (pv 1) pe_int)))))) (pss_one (ps_ret pe_bl))))), ?_⟩
  rintro ⟨n_, ⟨⟩⟩ F0 H0 Q KP L
  show Blk K F0 H0 KP _ [some (.im (toD n_)), none, none] (m_u_law_is_prime n_)
  unfold m_u_law_is_prime
  have hs_ := ((ev_int (i := 3)) : EvX K (W0 E) [some (.im (toD n_)), none, none] _ _)
  refine blk_seq (blk_set (i := 1) L trivial hs_ fun divisor_ => ?_)
  show Blk _ _ _ _ _ [some (.im (toD n_)), some (.im (toD divisor_)), none] _
  try refine Blk.nx ?_
  have ht_ := ((et_or (et_test (ev_op opx_eqI mild_ok (ev_opI (C := (fun _ j => 0 < j)) (g := fun i j => i % j) (fun x y _ h => by cases h; (show (0 : Int) < _; decide)) (ev_var (i := 0) (x := n_) rfl) (ev_int (i := 2))) (ev_int (i := 0)))) (et_test (ev_op (opx_B0 (g := fun i j => decide (i < j))) mild_ok (ev_var (i := 0) (x := n_) rfl) (ev_int (i := 3))))) : EvT K (W0 E) [some (.im (toD n_)), some (.im (toD divisor_)), none] _ _)
  refine blk_seq (blk_if2 L trivial ht_ ?_ ?_)
  · have hr_ := ((ev_op opx_eqI mild_ok (ev_var (i := 0) (x := n_) rfl) (ev_int (i := 2))) : EvX K (W0 E) [some (.im (toD n_)), some (.im (toD divisor_)), none] _ _)
    exact blk_ret L trivial hr_
  · refine blk_nil ?_
    try refine Blk.nx ?_
    have hi_ := ((ei_range1 (ev_int (i := 1024))) : EvI K (W0 E) [some (.im (toD n_)), some (.im (toD divisor_)), none] _ _)
    refine blk_seq (blk_for (S := Int) (m_u_law_is_prime_l2 n_ (m_u_law_is_prime_k5)) (m_u_law_is_prime_k5) (fun divisor_ => [some (.im (toD n_)), some (.im (toD divisor_)), none]) divisor_ L trivial hi_ (fun _ => gx_name) (.same (.same (.same .nil))) (fun _ => rfl) ?_ ?_)
    · intro F2 L2 hB2 x371 r2 s_ N_ hN2
      revert s_; intro divisor_
      show Blk _ _ _ _ _ [some (.im (toD n_)), some (.im (toD divisor_)), some (.im (toD x371))] (m_u_law_is_prime_l2 n_ (m_u_law_is_prime_k5) (x371 :: r2) divisor_)
      rw [m_u_law_is_prime_l2]
      show Blk _ _ _ _ _ _ ((fun (k_ : Int) => _) x371)
      generalize x371 = k_
      show Blk _ _ _ _ _ [some (.im (toD n_)), some (.im (toD divisor_)), some (.im (toD k_))] _
      have ht_ := ((et_test (ev_op (opx_B0 (g := fun i j => decide (j < i))) mild_ok (ev_op (opx_I (C := CMulX) (g := fun i j => i * j)) mild_need (ev_var (i := 1) (x := divisor_) rfl) (ev_var (i := 1) (x := divisor_) rfl)) (ev_var (i := 0) (x := n_) rfl))) : EvT K (W0 E) [some (.im (toD n_)), some (.im (toD divisor_)), some (.im (toD k_))] _ _)
      refine blk_seq (blk_if2 L2 trivial ht_ ?_ ?_)
      · have hr_ := ((ev_bl (b := true)) : EvX K (W0 E) [some (.im (toD n_)), some (.im (toD divisor_)), some (.im (toD k_))] _ _)
        exact blk_ret L2 trivial hr_
      · refine blk_nil ?_
        try refine Blk.nx ?_
        have ht_ := ((et_test (ev_op opx_eqI mild_ok (ev_op (opx_I (C := (fun _ j => 0 < j)) (g := fun i j => i % j)) mild_need (ev_var (i := 0) (x := n_) rfl) (ev_var (i := 1) (x := divisor_) rfl)) (ev_int (i := 0)))) : EvT K (W0 E) [some (.im (toD n_)), some (.im (toD divisor_)), some (.im (toD k_))] _ _)
        refine blk_seq (blk_if2 L2 trivial ht_ ?_ ?_)
        · have hr_ := ((ev_bl (b := false)) : EvX K (W0 E) [some (.im (toD n_)), some (.im (toD divisor_)), some (.im (toD k_))] _ _)
          exact blk_ret L2 trivial hr_
        · refine blk_nil ?_
          try refine Blk.nx ?_
          have hs_ := ((ev_op (opx_I0 (g := fun i j => i + j)) mild_ok (ev_var (i := 1) (x := divisor_) rfl) (ev_int (i := 2))) : EvX K (W0 E) [some (.im (toD n_)), some (.im (toD divisor_)), some (.im (toD k_))] _ _)
          refine blk_set (i := 1) L2 trivial hs_ fun divisor_ => ?_
          show Blk _ _ _ _ _ [some (.im (toD n_)), some (.im (toD divisor_)), some (.im (toD k_))] _
          try refine Blk.nx ?_
          exact (hN2 divisor_).weak (.same (.same (.drop .nil)))
    · intro divisor_
      show Blk _ _ _ _ _ [some (.im (toD n_)), some (.im (toD divisor_)), none] ((m_u_law_is_prime_k5) divisor_)
      unfold m_u_law_is_prime_k5
      try refine Blk.nx ?_
      have hr_ := ((ev_bl (b := true)) : EvX K (W0 E) [some (.im (toD n_)), some (.im (toD divisor_)), none] _ _)
      exact blk_ret L trivial hr_
noncomputable def m_u_law_prime_l3 (k3 : Int → Res Int) : List Int → Int → Res Int
  | [], s => k3 s
  | x476 :: r3, number_ =>   (fun (k_ : Int) => ((((Res.ok number_)).bind fun a478 => (Res.ok ()).bind fun a479 => Res.ok (a478, a479)).bind fun p477 => m_u_law_is_prime p477.1).bind fun b => cond b   ((Res.ok number_))   ((((Res.ok number_)).bind fun (t480 : Int) => ((Res.ok (1 : Int))).bind fun (t481 : Int) => Res.ok (t480 + t481)).bind fun (number_ : Int) =>   m_u_law_prime_l3 k3 r3 number_)) x476
noncomputable def m_u_law_prime_k5 : Int → Res Int := fun number_ =>   (Res.ok (65537 : Int))
noncomputable def m_u_law_prime (cell_ : Int) (least_ : Int) : Res Int :=
  ((((Res.ok cell_)).bind fun a384 => (Res.ok ()).bind fun a385 => Res.ok (a384, a385)).bind fun p383 => Res.ok (Int.natAbs p383.1 : Int)).bind fun (rest_ : Int) =>   ((((Res.ok rest_)).bind fun (t386 : Int) => ((Res.ok (5 : Int))).bind fun (t387 : Int) => Res.ok (t386 % t387)).bind fun (t388 : Int) => ((Res.ok (1 : Int))).bind fun (t389 : Int) => Res.ok (decide (t388 = t389))).bind fun b => cond b   (((((Res.ok (5 : Int))).bind fun a391 => (((Res.ok (7 : Int))).bind fun a393 => (((Res.ok (11 : Int))).bind fun a395 => (((Res.ok (13 : Int))).bind fun a397 => (((Res.ok (17 : Int))).bind fun a399 => (((Res.ok (19 : Int))).bind fun a401 => (((Res.ok (23 : Int))).bind fun a403 => (((Res.ok (29 : Int))).bind fun a405 => (((Res.ok (31 : Int))).bind fun a407 => (((Res.ok (37 : Int))).bind fun a409 => (((Res.ok (41 : Int))).bind fun a411 => (((Res.ok (43 : Int))).bind fun a413 => (Res.ok ()).bind fun a414 => Res.ok (a413, a414)).bind fun a412 => Res.ok (a411, a412)).bind fun a410 => Res.ok (a409, a410)).bind fun a408 => Res.ok (a407, a408)).bind fun a406 => Res.ok (a405, a406)).bind fun a404 => Res.ok (a403, a404)).bind fun a402 => Res.ok (a401, a402)).bind fun a400 => Res.ok (a399, a400)).bind fun a398 => Res.ok (a397, a398)).bind fun a396 => Res.ok (a395, a396)).bind fun a394 => Res.ok (a393, a394)).bind fun a392 => Res.ok (a391, a392)).bind fun p390 => Res.ok ([p390.1, p390.2.1, p390.2.2.1, p390.2.2.2.1, p390.2.2.2.2.1, p390.2.2.2.2.2.1, p390.2.2.2.2.2.2.1, p390.2.2.2.2.2.2.2.1, p390.2.2.2.2.2.2.2.2.1, p390.2.2.2.2.2.2.2.2.2.1, p390.2.2.2.2.2.2.2.2.2.2.1, p390.2.2.2.2.2.2.2.2.2.2.2.1] : List Int)).bind fun (t419 : (List Int)) => ((((Res.ok rest_)).bind fun (t415 : Int) => ((Res.ok (5 : Int))).bind fun (t416 : Int) => Res.ok (t415 / t416)).bind fun (t417 : Int) => ((Res.ok (12 : Int))).bind fun (t418 : Int) => Res.ok (t417 % t418)).bind fun (t420 : Int) => idx t419 t420)   (((((Res.ok rest_)).bind fun (t421 : Int) => ((Res.ok (5 : Int))).bind fun (t422 : Int) => Res.ok (t421 % t422)).bind fun (t423 : Int) => ((Res.ok (2 : Int))).bind fun (t424 : Int) => Res.ok (decide (t423 = t424))).bind fun b => cond b   (((((Res.ok (97 : Int))).bind fun a426 => (((Res.ok (193 : Int))).bind fun a428 => (((Res.ok (257 : Int))).bind fun a430 => (((Res.ok (7681 : Int))).bind fun a432 => (((Res.ok (12289 : Int))).bind fun a434 => (((Res.ok (65537 : Int))).bind fun a436 => (((Res.ok (786433 : Int))).bind fun a438 => (((Res.ok (65521 : Int))).bind fun a440 => (((Res.ok (8191 : Int))).bind fun a442 => (((Res.ok (131071 : Int))).bind fun a444 => (((Res.ok (524287 : Int))).bind fun a446 => (((Res.ok (241 : Int))).bind fun a448 => (Res.ok ()).bind fun a449 => Res.ok (a448, a449)).bind fun a447 => Res.ok (a446, a447)).bind fun a445 => Res.ok (a444, a445)).bind fun a443 => Res.ok (a442, a443)).bind fun a441 => Res.ok (a440, a441)).bind fun a439 => Res.ok (a438, a439)).bind fun a437 => Res.ok (a436, a437)).bind fun a435 => Res.ok (a434, a435)).bind fun a433 => Res.ok (a432, a433)).bind fun a431 => Res.ok (a430, a431)).bind fun a429 => Res.ok (a428, a429)).bind fun a427 => Res.ok (a426, a427)).bind fun p425 => Res.ok ([p425.1, p425.2.1, p425.2.2.1, p425.2.2.2.1, p425.2.2.2.2.1, p425.2.2.2.2.2.1, p425.2.2.2.2.2.2.1, p425.2.2.2.2.2.2.2.1, p425.2.2.2.2.2.2.2.2.1, p425.2.2.2.2.2.2.2.2.2.1, p425.2.2.2.2.2.2.2.2.2.2.1, p425.2.2.2.2.2.2.2.2.2.2.2.1] : List Int)).bind fun (t454 : (List Int)) => ((((Res.ok rest_)).bind fun (t450 : Int) => ((Res.ok (5 : Int))).bind fun (t451 : Int) => Res.ok (t450 / t451)).bind fun (t452 : Int) => ((Res.ok (12 : Int))).bind fun (t453 : Int) => Res.ok (t452 % t453)).bind fun (t455 : Int) => idx t454 t455)   ((((Res.ok least_)).bind fun (t473 : Int) => ((((Res.ok rest_)).bind fun (t456 : Int) => ((Res.ok (5 : Int))).bind fun (t457 : Int) => Res.ok (t456 / t457)).bind fun (t471 : Int) => (((((Res.ok (60 : Int))).bind fun a459 => (((Res.ok (1000 : Int))).bind fun a461 => (((Res.ok (1000000 : Int))).bind fun a463 => (Res.ok ()).bind fun a464 => Res.ok (a463, a464)).bind fun a462 => Res.ok (a461, a462)).bind fun a460 => Res.ok (a459, a460)).bind fun p458 => Res.ok ([p458.1, p458.2.1, p458.2.2.1] : List Int)).bind fun (t469 : (List Int)) => ((((Res.ok rest_)).bind fun (t465 : Int) => ((Res.ok (15 : Int))).bind fun (t466 : Int) => Res.ok (t465 / t466)).bind fun (t467 : Int) => ((Res.ok (3 : Int))).bind fun (t468 : Int) => Res.ok (t467 % t468)).bind fun (t470 : Int) => idx t469 t470).bind fun (t472 : Int) => Res.need (0 < t472) (Res.ok (t471 % t472))).bind fun (t474 : Int) => Res.ok (t473 + t474)).bind fun (number_ : Int) =>   (((Res.ok (400 : Int))).bind fun (t475 : Int) => Res.need (okRange t475) (Res.ok (pyRange 0 t475))).bind fun (xs482 : List Int) => m_u_law_prime_l3 (m_u_law_prime_k5) xs482 number_))
theorem ok_u_law_prime {P : Program} {w : World} {K : PySem.W.Frag} {mg : Str → Option Value} {base : Heap} (T : Facts K mg) {fd : FuncData} (F : FnP K "_law_prime" "_law_prime" s_u_law_prime (He.ga K "_law_prime") fd) :
    FnOk P w K mg base (L2.CX P w) 2 (He.ga K "_law_prime") fd ["cell", "least"] (spM K (fun (p : Int × Int × Unit) => m_u_law_prime p.1 p.2.1)) := by
  obtain ⟨fd_u_law_is_prime, F_u_law_is_prime⟩ := T.d_u_law_is_prime
  have G_u_law_is_prime := ok_u_law_is_prime (P := P) (w := w) (base := base) T F_u_law_is_prime
  have b_u_law_is_prime : Binds K fd_u_law_is_prime ["n"] [] := F_u_law_is_prime.bindsN fun _ _ _ _ _ _ us hl => match us, hl with | [_], _ => rfl
  refine fn_ok F sc_u_law_prime (fun y => rfl) (fun cdv A outer s H E hr => ?_)
  refine ⟨_, (pss_cons (ps_set (i := 2) sc_u_law_prime.nd rfl (Or.inl rfl) (pe_callB call_abs (by rfl) T.n_abs (by decide +kernel) (pa_cons (pv 0) pa_nil))) (pss_cons (ps_if (pt_cmpR op_eq (pe_op op_mod (pv 2) pe_int) pe_int (nomark _)) (pss_one (ps_ret (pe_ix (cr_ixL rfl) (pe_lst (pa_cons pe_int (pa_cons pe_int (pa_cons pe_int (pa_cons pe_int (pa_cons pe_int (pa_cons pe_int (pa_cons pe_int (pa_cons pe_int (pa_cons pe_int (pa_cons pe_int (pa_cons pe_int (pa_cons pe_int pa_nil))))))))))))) (pe_op op_mod (pe_op op_fdiv (pv 2) pe_int) pe_int) (fun _ _ => rfl)))) pss_nil) (pss_cons (ps_if (pt_cmpR op_eq (pe_op op_mod (pv 2) pe_int) pe_int (nomark _)) (pss_one (ps_ret (pe_ix (cr_ixL rfl) (pe_lst (pa_cons pe_int (pa_cons pe_int (pa_cons pe_int (pa_cons pe_int (pa_cons pe_int (pa_cons pe_int (pa_cons pe_int (pa_cons pe_int (pa_cons pe_int (pa_cons pe_int (pa_cons pe_int (pa_cons pe_int pa_nil))))))))))))) (pe_op op_mod (pe_op op_fdiv (pv 2) pe_int) pe_int) (fun _ _ => rfl)))) pss_nil) (pss_cons (ps_set (i := 3) sc_u_law_prime.nd rfl (Or.inl rfl) (pe_op op_add (pv 1) (pe_op op_mod (pe_op op_fdiv (pv 2) pe_int) (pe_ix (cr_ixL rfl) (pe_lst (pa_cons pe_int (pa_cons pe_int (pa_cons pe_int pa_nil)))) (pe_op op_mod (pe_op op_fdiv (pv 2) pe_int) pe_int) (fun _ _ => rfl))))) (pss_cons (ps_for (passes_of rfl) rfl (pi_range1 rfl T.n_range (pa_cons pe_int pa_nil)) (pg_name (i := 4) sc_u_law_prime.nd rfl (Or.inl rfl)) (pss_cons (ps_if (pt_val (pe_callS G_u_law_is_prime (hr.mono (by decide)) rfl T.g_u_law_is_prime F_u_law_is_prime.kp b_u_law_is_prime (fun σ => passAt (takes_of rfl rfl rfl rfl) σ) (pa_cons (pv 3) pa_nil))) (pss_one (ps_ret (pv 3))) pss_nil) (pss_one (ps_set (i := 3) sc_u_law_prime.nd rfl (Or.inl rfl) (pe_op op_add (pv 3) pe_int))))) (pss_one (ps_ret pe_int))))))), ?_⟩
  rintro ⟨cell_, least_, ⟨⟩⟩ F0 H0 Q KP L
  show Blk K F0 H0 KP _ [some (.im (toD cell_)), some (.im (toD least_)), none, none, none] (m_u_law_prime cell_ least_)
  unfold m_u_law_prime
  have hs_ := ((ev_cb cx_abs (fun _ _ h => nomatch h) (ea_cons (ev_var (i := 0) (x := cell_) rfl) ea_nil)) : EvX K (W0 E) [some (.im (toD cell_)), some (.im (toD least_)), none, none, none] _ _)
  refine blk_seq (blk_set (i := 2) L trivial hs_ fun rest_ => ?_)
  show Blk _ _ _ _ _ [some (.im (toD cell_)), some (.im (toD least_)), some (.im (toD rest_)), none, none] _
  try refine Blk.nx ?_
  have ht_ := ((et_test (ev_op opx_eqI mild_ok (ev_opI (C := (fun _ j => 0 < j)) (g := fun i j => i % j) (fun x y _ h => by cases h; (show (0 : Int) < _; decide)) (ev_var (i := 2) (x := rest_) rfl) (ev_int (i := 5))) (ev_int (i := 1)))) : EvT K (W0 E) [some (.im (toD cell_)), some (.im (toD least_)), some (.im (toD rest_)), none, none] _ _)
  refine blk_seq (blk_if2 L trivial ht_ ?_ ?_)
  · have hr_ := ((ev_op opx_ixL (fun x y => idx_mild x y) (ev_ofN (en_lst (f := (fun y => ([y.1, y.2.1, y.2.2.1, y.2.2.2.1, y.2.2.2.2.1, y.2.2.2.2.2.1, y.2.2.2.2.2.2.1, y.2.2.2.2.2.2.2.1, y.2.2.2.2.2.2.2.2.1, y.2.2.2.2.2.2.2.2.2.1, y.2.2.2.2.2.2.2.2.2.2.1, y.2.2.2.2.2.2.2.2.2.2.2.1] : List Int))) (ea_cons (ev_int (i := 5)) (ea_cons (ev_int (i := 7)) (ea_cons (ev_int (i := 11)) (ea_cons (ev_int (i := 13)) (ea_cons (ev_int (i := 17)) (ea_cons (ev_int (i := 19)) (ea_cons (ev_int (i := 23)) (ea_cons (ev_int (i := 29)) (ea_cons (ev_int (i := 31)) (ea_cons (ev_int (i := 37)) (ea_cons (ev_int (i := 41)) (ea_cons (ev_int (i := 43)) ea_nil)))))))))))) (fun _ => rfl) (fun _ => by show 12 ≤ 100000; decide))) (ev_opI (C := (fun _ j => 0 < j)) (g := fun i j => i % j) (fun x y _ h => by cases h; (show (0 : Int) < _; decide)) (ev_opI (C := CDiv) (g := fun i j => i / j) (fun x y _ h => by cases h; exact ⟨by decide, by decide⟩) (ev_var (i := 2) (x := rest_) rfl) (ev_int (i := 5))) (ev_int (i := 12)))) : EvX K (W0 E) [some (.im (toD cell_)), some (.im (toD least_)), some (.im (toD rest_)), none, none] _ _)
    exact blk_ret L trivial hr_
  · refine blk_nil ?_
    try refine Blk.nx ?_
    have ht_ := ((et_test (ev_op opx_eqI mild_ok (ev_opI (C := (fun _ j => 0 < j)) (g := fun i j => i % j) (fun x y _ h => by cases h; (show (0 : Int) < _; decide)) (ev_var (i := 2) (x := rest_) rfl) (ev_int (i := 5))) (ev_int (i := 2)))) : EvT K (W0 E) [some (.im (toD cell_)), some (.im (toD least_)), some (.im (toD rest_)), none, none] _ _)
    refine blk_seq (blk_if2 L trivial ht_ ?_ ?_)
    · have hr_ := ((ev_op opx_ixL (fun x y => idx_mild x y) (ev_ofN (en_lst (f := (fun y => ([y.1, y.2.1, y.2.2.1, y.2.2.2.1, y.2.2.2.2.1, y.2.2.2.2.2.1, y.2.2.2.2.2.2.1, y.2.2.2.2.2.2.2.1, y.2.2.2.2.2.2.2.2.1, y.2.2.2.2.2.2.2.2.2.1, y.2.2.2.2.2.2.2.2.2.2.1, y.2.2.2.2.2.2.2.2.2.2.2.1] : List Int))) (ea_cons (ev_int (i := 97)) (ea_cons (ev_int (i := 193)) (ea_cons (ev_int (i := 257)) (ea_cons (ev_int (i := 7681)) (ea_cons (ev_int (i := 12289)) (ea_cons (ev_int (i := 65537)) (ea_cons (ev_int (i := 786433)) (ea_cons (ev_int (i := 65521)) (ea_cons (ev_int (i := 8191)) (ea_cons (ev_int (i := 131071)) (ea_cons (ev_int (i := 524287)) (ea_cons (ev_int (i := 241)) ea_nil)))))))))))) (fun _ => rfl) (fun _ => by show 12 ≤ 100000; decide))) (ev_opI (C := (fun _ j => 0 < j)) (g := fun i j => i % j) (fun x y _ h => by cases h; (show (0 : Int) < _; decide)) (ev_opI (C := CDiv) (g := fun i j => i / j) (fun x y _ h => by cases h; exact ⟨by decide, by decide⟩) (ev_var (i := 2) (x := rest_) rfl) (ev_int (i := 5))) (ev_int (i := 12)))) : EvX K (W0 E) [some (.im (toD cell_)), some (.im (toD least_)), some (.im (toD rest_)), none, none] _ _)
      exact blk_ret L trivial hr_
    · refine blk_nil ?_
      try refine Blk.nx ?_
      have hs_ := ((ev_op (opx_I0 (g := fun i j => i + j)) mild_ok (ev_var (i := 1) (x := least_) rfl) (ev_op (opx_I (C := (fun _ j => 0 < j)) (g := fun i j => i % j)) mild_need (ev_opI (C := CDiv) (g := fun i j => i / j) (fun x y _ h => by cases h; exact ⟨by decide, by decide⟩) (ev_var (i := 2) (x := rest_) rfl) (ev_int (i := 5))) (ev_op opx_ixL (fun x y => idx_mild x y) (ev_ofN (en_lst (f := (fun y => ([y.1, y.2.1, y.2.2.1] : List Int))) (ea_cons (ev_int (i := 60)) (ea_cons (ev_int (i := 1000)) (ea_cons (ev_int (i := 1000000)) ea_nil))) (fun _ => rfl) (fun _ => by show 3 ≤ 100000; decide))) (ev_opI (C := (fun _ j => 0 < j)) (g := fun i j => i % j) (fun x y _ h => by cases h; (show (0 : Int) < _; decide)) (ev_opI (C := CDiv) (g := fun i j => i / j) (fun x y _ h => by cases h; exact ⟨by decide, by decide⟩) (ev_var (i := 2) (x := rest_) rfl) (ev_int (i := 15))) (ev_int (i := 3)))))) : EvX K (W0 E) [some (.im (toD cell_)), some (.im (toD least_)), some (.im (toD rest_)), none, none] _ _)
      refine blk_seq (blk_set (i := 3) L trivial hs_ fun number_ => ?_)
      show Blk _ _ _ _ _ [some (.im (toD cell_)), some (.im (toD least_)), some (.im (toD rest_)), some (.im (toD number_)), none] _
      try refine Blk.nx ?_
      have hi_ := ((ei_range1 (ev_int (i := 400))) : EvI K (W0 E) [some (.im (toD cell_)), some (.im (toD least_)), some (.im (toD rest_)), some (.im (toD number_)), none] _ _)
      refine blk_seq (blk_for (S := Int) (m_u_law_prime_l3 (m_u_law_prime_k5)) (m_u_law_prime_k5) (fun number_ => [some (.im (toD cell_)), some (.im (toD least_)), some (.im (toD rest_)), some (.im (toD number_)), none]) number_ L trivial hi_ (fun _ => gx_name) (.same (.same (.same (.same (.same .nil))))) (fun _ => rfl) ?_ ?_)
      · intro F3 L3 hB3 x476 r3 s_ N_ hN3
        revert s_; intro number_
        show Blk _ _ _ _ _ [some (.im (toD cell_)), some (.im (toD least_)), some (.im (toD rest_)), some (.im (toD number_)), some (.im (toD x476))] (m_u_law_prime_l3 (m_u_law_prime_k5) (x476 :: r3) number_)
        rw [m_u_law_prime_l3]
        show Blk _ _ _ _ _ _ ((fun (k_ : Int) => _) x476)
        generalize x476 = k_
        show Blk _ _ _ _ _ [some (.im (toD cell_)), some (.im (toD least_)), some (.im (toD rest_)), some (.im (toD number_)), some (.im (toD k_))] _
        have ht_ := ((et_B (ev_call (f := (fun (p : Int × Unit) => m_u_law_is_prime p.1)) (ea_cons (ev_var (i := 3) (x := number_) rfl) ea_nil))) : EvT K (W0 E) [some (.im (toD cell_)), some (.im (toD least_)), some (.im (toD rest_)), some (.im (toD number_)), some (.im (toD k_))] _ _)
        refine blk_seq (blk_if2 L3 trivial ht_ ?_ ?_)
        · have hr_ := ((ev_var (i := 3) (x := number_) rfl) : EvX K (W0 E) [some (.im (toD cell_)), some (.im (toD least_)), some (.im (toD rest_)), some (.im (toD number_)), some (.im (toD k_))] _ _)
          exact blk_ret L3 trivial hr_
        · refine blk_nil ?_
          try refine Blk.nx ?_
          have hs_ := ((ev_op (opx_I0 (g := fun i j => i + j)) mild_ok (ev_var (i := 3) (x := number_) rfl) (ev_int (i := 1))) : EvX K (W0 E) [some (.im (toD cell_)), some (.im (toD least_)), some (.im (toD rest_)), some (.im (toD number_)), some (.im (toD k_))] _ _)
          refine blk_set (i := 3) L3 trivial hs_ fun number_ => ?_
          show Blk _ _ _ _ _ [some (.im (toD cell_)), some (.im (toD least_)), some (.im (toD rest_)), some (.im (toD number_)), some (.im (toD k_))] _
          try refine Blk.nx ?_
          exact (hN3 number_).weak (.same (.same (.same (.same (.drop .nil)))))
      · intro number_
        show Blk _ _ _ _ _ [some (.im (toD cell_)), some (.im (toD least_)), some (.im (toD rest_)), some (.im (toD number_)), none] ((m_u_law_prime_k5) number_)
        unfold m_u_law_prime_k5
        try refine Blk.nx ?_
        have hr_ := ((ev_int (i := 65537)) : EvX K (W0 E) [some (.im (toD cell_)), some (.im (toD least_)), some (.im (toD rest_)), some (.im (toD number_)), none] _ _)
        exact blk_ret L trivial hr_
noncomputable def m_u_law_curve_prime (cell_ : Int) : Res Int :=
  ((((((Res.ok cell_)).bind fun a484 => (Res.ok ()).bind fun a485 => Res.ok (a484, a485)).bind fun p483 => Res.ok (Int.natAbs p483.1 : Int)).bind fun (t486 : Int) => ((Res.ok (7 : Int))).bind fun (t487 : Int) => Res.ok (t486 % t487)).bind fun (t488 : Int) => ((Res.ok (3 : Int))).bind fun (t489 : Int) => Res.ok (decide (t488 = t489))).bind fun b => cond b   ((((((Res.ok (2 : Int))).bind fun (t490 : Int) => ((Res.ok (64 : Int))).bind fun (t491 : Int) => Res.ok (t490 ^ t491.toNat)).bind fun (t494 : Int) => (((Res.ok (2 : Int))).bind fun (t492 : Int) => ((Res.ok (64 : Int))).bind fun (t493 : Int) => Res.ok (t492 ^ t493.toNat)).bind fun (t495 : Int) => Res.need (CMulX t494 t495) (Res.ok (t494 * t495))).bind fun (t498 : Int) => (((Res.ok (2 : Int))).bind fun (t496 : Int) => ((Res.ok (64 : Int))).bind fun (t497 : Int) => Res.ok (t496 ^ t497.toNat)).bind fun (t499 : Int) => Res.need (CMulX t498 t499) (Res.ok (t498 * t499))).bind fun (high_ : Int) =>   ((((((Res.ok high_)).bind fun (t502 : Int) => (((Res.ok (2 : Int))).bind fun (t500 : Int) => ((Res.ok (63 : Int))).bind fun (t501 : Int) => Res.ok (t500 ^ t501.toNat)).bind fun (t503 : Int) => Res.need (CMulX t502 t503) (Res.ok (t502 * t503))).bind fun (t504 : Int) => ((Res.ok (19 : Int))).bind fun (t505 : Int) => Res.ok (t504 - t505)).bind fun a525 => ((((((Res.ok high_)).bind fun (t508 : Int) => (((Res.ok (2 : Int))).bind fun (t506 : Int) => ((Res.ok (64 : Int))).bind fun (t507 : Int) => Res.ok (t506 ^ t507.toNat)).bind fun (t509 : Int) => Res.need (CMulX t508 t509) (Res.ok (t508 * t509))).bind fun (t512 : Int) => (((Res.ok (2 : Int))).bind fun (t510 : Int) => ((Res.ok (32 : Int))).bind fun (t511 : Int) => Res.ok (t510 ^ t511.toNat)).bind fun (t513 : Int) => Res.ok (t512 - t513)).bind fun (t514 : Int) => ((Res.ok (977 : Int))).bind fun (t515 : Int) => Res.ok (t514 - t515)).bind fun a527 => (((((Res.ok (2 : Int))).bind fun (t516 : Int) => ((Res.ok (61 : Int))).bind fun (t517 : Int) => Res.ok (t516 ^ t517.toNat)).bind fun (t518 : Int) => ((Res.ok (1 : Int))).bind fun (t519 : Int) => Res.ok (t518 - t519)).bind fun a529 => (((((Res.ok (2 : Int))).bind fun (t520 : Int) => ((Res.ok (31 : Int))).bind fun (t521 : Int) => Res.ok (t520 ^ t521.toNat)).bind fun (t522 : Int) => ((Res.ok (1 : Int))).bind fun (t523 : Int) => Res.ok (t522 - t523)).bind fun a531 => (Res.ok ()).bind fun a532 => Res.ok (a531, a532)).bind fun a530 => Res.ok (a529, a530)).bind fun a528 => Res.ok (a527, a528)).bind fun a526 => Res.ok (a525, a526)).bind fun p524 => Res.ok ([p524.1, p524.2.1, p524.2.2.1, p524.2.2.2.1] : List Int)).bind fun (great_ : (List Int)) =>   (((((((Res.ok high_)).bind fun (t535 : Int) => (((Res.ok (2 : Int))).bind fun (t533 : Int) => ((Res.ok (64 : Int))).bind fun (t534 : Int) => Res.ok (t533 ^ t534.toNat)).bind fun (t536 : Int) => Res.need (CMulX t535 t536) (Res.ok (t535 * t536))).bind fun (t541 : Int) => (((Res.ok high_)).bind fun (t539 : Int) => (((Res.ok (2 : Int))).bind fun (t537 : Int) => ((Res.ok (32 : Int))).bind fun (t538 : Int) => Res.ok (t537 ^ t538.toNat)).bind fun (t540 : Int) => Res.need (CMulX t539 t540) (Res.ok (t539 * t540))).bind fun (t542 : Int) => Res.ok (t541 - t542)).bind fun (t543 : Int) => ((Res.ok high_)).bind fun (t544 : Int) => Res.ok (t543 + t544)).bind fun (t551 : Int) => ((((Res.ok (2 : Int))).bind fun (t545 : Int) => ((Res.ok (64 : Int))).bind fun (t546 : Int) => Res.ok (t545 ^ t546.toNat)).bind fun (t549 : Int) => (((Res.ok (2 : Int))).bind fun (t547 : Int) => ((Res.ok (32 : Int))).bind fun (t548 : Int) => Res.ok (t547 ^ t548.toNat)).bind fun (t550 : Int) => Res.need (CMulX t549 t550) (Res.ok (t549 * t550))).bind fun (t552 : Int) => Res.ok (t551 + t552)).bind fun (t553 : Int) => ((Res.ok (1 : Int))).bind fun (t554 : Int) => Res.ok (t553 - t554)).bind fun (y564 : Int) => Res.need (great_.length < 16777216) ((fun (great_ : (List Int)) =>   ((Res.ok great_)).bind fun (t562 : (List Int)) => ((((((Res.ok cell_)).bind fun a556 => (Res.ok ()).bind fun a557 => Res.ok (a556, a557)).bind fun p555 => Res.ok (Int.natAbs p555.1 : Int)).bind fun (t558 : Int) => ((Res.ok (7 : Int))).bind fun (t559 : Int) => Res.ok (t558 / t559)).bind fun (t560 : Int) => ((Res.ok (5 : Int))).bind fun (t561 : Int) => Res.ok (t560 % t561)).bind fun (t563 : Int) => idx t562 t563) (great_ ++ [y564])))   (((((Res.ok cell_)).bind fun (t566 : Int) => ((Res.ok (7 : Int))).bind fun (t567 : Int) => Res.ok (t566 / t567)).bind fun a569 => (((Res.ok (5 : Int))).bind fun a571 => (Res.ok ()).bind fun a572 => Res.ok (a571, a572)).bind fun a570 => Res.ok (a569, a570)).bind fun p568 => m_u_law_prime p568.1 p568.2.1)
theorem ok_u_law_curve_prime {P : Program} {w : World} {K : PySem.W.Frag} {mg : Str → Option Value} {base : Heap} (T : Facts K mg) {fd : FuncData} (F : FnP K "_law_curve_prime" "_law_curve_prime" s_u_law_curve_prime (He.ga K "_law_curve_prime") fd) :
    FnOk P w K mg base (L2.CX P w) 3 (He.ga K "_law_curve_prime") fd ["cell"] (spM K (fun (p : Int × Unit) => m_u_law_curve_prime p.1)) := by
  obtain ⟨fd_u_law_prime, F_u_law_prime⟩ := T.d_u_law_prime
  have G_u_law_prime := ok_u_law_prime (P := P) (w := w) (base := base) T F_u_law_prime
  have b_u_law_prime : Binds K fd_u_law_prime ["cell", "least"] [] := F_u_law_prime.bindsN fun _ _ _ _ _ _ us hl => match us, hl with | [_, _], _ => rfl
  refine fn_ok F sc_u_law_curve_prime (fun y => rfl) (fun cdv A outer s H E hr => ?_)
  refine ⟨_, (pss_cons (ps_if (pt_cmpR op_eq (pe_op op_mod (pe_callB call_abs (by rfl) T.n_abs (by decide +kernel) (pa_cons (pv 0) pa_nil)) pe_int) pe_int (nomark _)) (pss_cons (ps_set (i := 1) sc_u_law_curve_prime.nd rfl (Or.inl rfl) (pe_op op_mulX (pe_op op_mulX (pe_op op_pow pe_int pe_int) (pe_op op_pow pe_int pe_int)) (pe_op op_pow pe_int pe_int))) (pss_cons (ps_set (i := 2) sc_u_law_curve_prime.nd rfl (Or.inl rfl) (pe_lst (pa_cons (pe_op op_sub (pe_op op_mulX (pv 1) (pe_op op_pow pe_int pe_int)) pe_int) (pa_cons (pe_op op_sub (pe_op op_sub (pe_op op_mulX (pv 1) (pe_op op_pow pe_int pe_int)) (pe_op op_pow pe_int pe_int)) pe_int) (pa_cons (pe_op op_sub (pe_op op_pow pe_int pe_int) pe_int) (pa_cons (pe_op op_sub (pe_op op_pow pe_int pe_int) pe_int) pa_nil)))))) (pss_cons (ps_expr (pe_bm PySem.F.plainAttrs_list PySem.F.slot_list_append PySem.F.type_list_append mt_append (pv 2) (pa_cons (pe_op op_sub (pe_op op_add (pe_op op_add (pe_op op_sub (pe_op op_mulX (pv 1) (pe_op op_pow pe_int pe_int)) (pe_op op_mulX (pv 1) (pe_op op_pow pe_int pe_int))) (pv 1)) (pe_op op_mulX (pe_op op_pow pe_int pe_int) (pe_op op_pow pe_int pe_int))) pe_int) pa_nil))) (pss_one (ps_ret (pe_ix (cr_ixL rfl) (pv 2) (pe_op op_mod (pe_op op_fdiv (pe_callB call_abs (by rfl) T.n_abs (by decide +kernel) (pa_cons (pv 0) pa_nil)) pe_int) pe_int) (fun _ _ => rfl))))))) pss_nil) (pss_one (ps_ret (pe_callS G_u_law_prime (hr.mono (by decide)) rfl T.g_u_law_prime F_u_law_prime.kp b_u_law_prime (fun σ => passAt (takes_of rfl rfl rfl rfl) σ) (pa_cons (pe_op op_fdiv (pv 0) pe_int) (pa_cons pe_int pa_nil)))))), ?_⟩
  rintro ⟨cell_, ⟨⟩⟩ F0 H0 Q KP L
  show Blk K F0 H0 KP _ [some (.im (toD cell_)), none, none] (m_u_law_curve_prime cell_)
  unfold m_u_law_curve_prime
  have ht_ := ((et_test (ev_op opx_eqI mild_ok (ev_opI (C := (fun _ j => 0 < j)) (g := fun i j => i % j) (fun x y _ h => by cases h; (show (0 : Int) < _; decide)) (ev_cb cx_abs (fun _ _ h => nomatch h) (ea_cons (ev_var (i := 0) (x := cell_) rfl) ea_nil)) (ev_int (i := 7))) (ev_int (i := 3)))) : EvT K (W0 E) [some (.im (toD cell_)), none, none] _ _)
  refine blk_seq (blk_if2 L trivial ht_ ?_ ?_)
  · have hs_ := ((ev_op (opx_I (C := CMulX) (g := fun i j => i * j)) mild_need (ev_op (opx_I (C := CMulX) (g := fun i j => i * j)) mild_need (ev_opI (C := CPow) (g := fun i j => i ^ j.toNat) (fun x y h1 h2 => by cases h1; cases h2; exact ⟨by decide, by decide, by decide⟩) (ev_int (i := 2)) (ev_int (i := 64))) (ev_opI (C := CPow) (g := fun i j => i ^ j.toNat) (fun x y h1 h2 => by cases h1; cases h2; exact ⟨by decide, by decide, by decide⟩) (ev_int (i := 2)) (ev_int (i := 64)))) (ev_opI (C := CPow) (g := fun i j => i ^ j.toNat) (fun x y h1 h2 => by cases h1; cases h2; exact ⟨by decide, by decide, by decide⟩) (ev_int (i := 2)) (ev_int (i := 64)))) : EvX K (W0 E) [some (.im (toD cell_)), none, none] _ _)
    refine blk_seq (blk_set (i := 1) L trivial hs_ fun high_ => ?_)
    show Blk _ _ _ _ _ [some (.im (toD cell_)), some (.im (toD high_)), none] _
    try refine Blk.nx ?_
    have hs_ := ((en_lst (f := (fun y => ([y.1, y.2.1, y.2.2.1, y.2.2.2.1] : List Int))) (ea_cons (ev_op (opx_I0 (g := fun i j => i - j)) mild_ok (ev_op (opx_I (C := CMulX) (g := fun i j => i * j)) mild_need (ev_var (i := 1) (x := high_) rfl) (ev_opI (C := CPow) (g := fun i j => i ^ j.toNat) (fun x y h1 h2 => by cases h1; cases h2; exact ⟨by decide, by decide, by decide⟩) (ev_int (i := 2)) (ev_int (i := 63)))) (ev_int (i := 19))) (ea_cons (ev_op (opx_I0 (g := fun i j => i - j)) mild_ok (ev_op (opx_I0 (g := fun i j => i - j)) mild_ok (ev_op (opx_I (C := CMulX) (g := fun i j => i * j)) mild_need (ev_var (i := 1) (x := high_) rfl) (ev_opI (C := CPow) (g := fun i j => i ^ j.toNat) (fun x y h1 h2 => by cases h1; cases h2; exact ⟨by decide, by decide, by decide⟩) (ev_int (i := 2)) (ev_int (i := 64)))) (ev_opI (C := CPow) (g := fun i j => i ^ j.toNat) (fun x y h1 h2 => by cases h1; cases h2; exact ⟨by decide, by decide, by decide⟩) (ev_int (i := 2)) (ev_int (i := 32)))) (ev_int (i := 977))) (ea_cons (ev_op (opx_I0 (g := fun i j => i - j)) mild_ok (ev_opI (C := CPow) (g := fun i j => i ^ j.toNat) (fun x y h1 h2 => by cases h1; cases h2; exact ⟨by decide, by decide, by decide⟩) (ev_int (i := 2)) (ev_int (i := 61))) (ev_int (i := 1))) (ea_cons (ev_op (opx_I0 (g := fun i j => i - j)) mild_ok (ev_opI (C := CPow) (g := fun i j => i ^ j.toNat) (fun x y h1 h2 => by cases h1; cases h2; exact ⟨by decide, by decide, by decide⟩) (ev_int (i := 2)) (ev_int (i := 31))) (ev_int (i := 1))) ea_nil)))) (fun _ => rfl) (fun _ => by show 4 ≤ 100000; decide)) : EvN K (W0 E) [some (.im (toD cell_)), some (.im (toD high_)), none] _ _)
    refine blk_seq (blk_own (i := 2) L trivial hs_ fun great_ => ?_)
    show Blk _ _ _ _ _ [some (.im (toD cell_)), some (.im (toD high_)), some (.ow (great_.map toD))] _
    try refine Blk.nx ?_
    have hs_ := ((ev_op (opx_I0 (g := fun i j => i - j)) mild_ok (ev_op (opx_I0 (g := fun i j => i + j)) mild_ok (ev_op (opx_I0 (g := fun i j => i + j)) mild_ok (ev_op (opx_I0 (g := fun i j => i - j)) mild_ok (ev_op (opx_I (C := CMulX) (g := fun i j => i * j)) mild_need (ev_var (i := 1) (x := high_) rfl) (ev_opI (C := CPow) (g := fun i j => i ^ j.toNat) (fun x y h1 h2 => by cases h1; cases h2; exact ⟨by decide, by decide, by decide⟩) (ev_int (i := 2)) (ev_int (i := 64)))) (ev_op (opx_I (C := CMulX) (g := fun i j => i * j)) mild_need (ev_var (i := 1) (x := high_) rfl) (ev_opI (C := CPow) (g := fun i j => i ^ j.toNat) (fun x y h1 h2 => by cases h1; cases h2; exact ⟨by decide, by decide, by decide⟩) (ev_int (i := 2)) (ev_int (i := 32))))) (ev_var (i := 1) (x := high_) rfl)) (ev_op (opx_I (C := CMulX) (g := fun i j => i * j)) mild_need (ev_opI (C := CPow) (g := fun i j => i ^ j.toNat) (fun x y h1 h2 => by cases h1; cases h2; exact ⟨by decide, by decide, by decide⟩) (ev_int (i := 2)) (ev_int (i := 64))) (ev_opI (C := CPow) (g := fun i j => i ^ j.toNat) (fun x y h1 h2 => by cases h1; cases h2; exact ⟨by decide, by decide, by decide⟩) (ev_int (i := 2)) (ev_int (i := 32))))) (ev_int (i := 1))) : EvX K (W0 E) [some (.im (toD cell_)), some (.im (toD high_)), some (.ow (great_.map toD))] _ _)
    refine blk_seq (blk_app (i := 2) (xs := great_) L trivial rfl hs_ fun y565 => ?_)
    show Blk _ _ _ _ _ [some (.im (toD cell_)), some (.im (toD high_)), some (.ow ((great_ ++ [y565]).map toD))] ((fun (great_ : (List Int)) => _) (great_ ++ [y565]))
    generalize great_ ++ [y565] = great_
    show Blk _ _ _ _ _ [some (.im (toD cell_)), some (.im (toD high_)), some (.ow (great_.map toD))] _
    try refine Blk.nx ?_
    refine blk_freeze 2 rfl ?_
    show Blk _ _ _ _ _ [some (.im (toD cell_)), some (.im (toD high_)), some (.im (toD great_))] _
    have hr_ := ((ev_op opx_ixL (fun x y => idx_mild x y) (ev_var (i := 2) (x := great_) rfl) (ev_opI (C := (fun _ j => 0 < j)) (g := fun i j => i % j) (fun x y _ h => by cases h; (show (0 : Int) < _; decide)) (ev_opI (C := CDiv) (g := fun i j => i / j) (fun x y _ h => by cases h; exact ⟨by decide, by decide⟩) (ev_cb cx_abs (fun _ _ h => nomatch h) (ea_cons (ev_var (i := 0) (x := cell_) rfl) ea_nil)) (ev_int (i := 7))) (ev_int (i := 5)))) : EvX K (W0 E) [some (.im (toD cell_)), some (.im (toD high_)), some (.im (toD great_))] _ _)
    exact blk_ret L trivial hr_
  · refine blk_nil ?_
    try refine Blk.nx ?_
    have hr_ := ((ev_call (f := (fun (p : Int × Int × Unit) => m_u_law_prime p.1 p.2.1)) (ea_cons (ev_opI (C := CDiv) (g := fun i j => i / j) (fun x y _ h => by cases h; exact ⟨by decide, by decide⟩) (ev_var (i := 0) (x := cell_) rfl) (ev_int (i := 7))) (ea_cons (ev_int (i := 5)) ea_nil))) : EvX K (W0 E) [some (.im (toD cell_)), none, none] _ _)
    exact blk_ret L trivial hr_
noncomputable def m_u_law_power_k3 (exponent_ : Int) (modulus_ : Int) (square_ : Int) (g1 : Int × Int × Int → Res Int) : Int → Res Int := fun result_ =>   ((((Res.ok square_)).bind fun (t583 : Int) => ((Res.ok square_)).bind fun (t584 : Int) => Res.need (CMulX t583 t584) (Res.ok (t583 * t584))).bind fun (t585 : Int) => ((Res.ok modulus_)).bind fun (t586 : Int) => Res.need (0 < t586) (Res.ok (t585 % t586))).bind fun (square_ : Int) =>   (((Res.ok exponent_)).bind fun (t587 : Int) => ((Res.ok (2 : Int))).bind fun (t588 : Int) => Res.ok (t587 / t588)).bind fun (exponent_ : Int) =>   g1 (exponent_, result_, square_)
noncomputable def m_u_law_power_l1 (modulus_ : Int) (k1 : Int × Int × Int → Res Int) : List Int → Int × Int × Int → Res Int
  | [], s => k1 s
  | x576 :: r1, (exponent_, result_, square_) =>   (fun (k_ : Int) => (((Res.ok exponent_)).bind fun (t577 : Int) => ((Res.ok (0 : Int))).bind fun (t578 : Int) => Res.ok (decide (t577 = t578))).bind fun b => cond b   (k1 (exponent_, result_, square_))   (((((Res.ok exponent_)).bind fun (t579 : Int) => ((Res.ok (2 : Int))).bind fun (t580 : Int) => Res.ok (t579 % t580)).bind fun (t581 : Int) => ((Res.ok (1 : Int))).bind fun (t582 : Int) => Res.ok (decide (t581 = t582))).bind fun b => cond b   (((((Res.ok result_)).bind fun (t589 : Int) => ((Res.ok square_)).bind fun (t590 : Int) => Res.need (CMulX t589 t590) (Res.ok (t589 * t590))).bind fun (t591 : Int) => ((Res.ok modulus_)).bind fun (t592 : Int) => Res.need (0 < t592) (Res.ok (t591 % t592))).bind fun (result_ : Int) =>   (m_u_law_power_k3 exponent_ modulus_ square_ (m_u_law_power_l1 modulus_ k1 r1)) result_)   ((m_u_law_power_k3 exponent_ modulus_ square_ (m_u_law_power_l1 modulus_ k1 r1)) result_))) x576
noncomputable def m_u_law_power_k4 : Int × Int × Int → Res Int := fun (exponent_, result_, square_) =>   (Res.ok result_)
noncomputable def m_u_law_power (a_ : Int) (exponent_ : Int) (modulus_ : Int) : Res Int :=
  ((Res.ok (1 : Int))).bind fun (result_ : Int) =>   (((Res.ok a_)).bind fun (t573 : Int) => ((Res.ok modulus_)).bind fun (t574 : Int) => Res.need (0 < t574) (Res.ok (t573 % t574))).bind fun (square_ : Int) =>   (((Res.ok (260 : Int))).bind fun (t575 : Int) => Res.need (okRange t575) (Res.ok (pyRange 0 t575))).bind fun (xs593 : List Int) => m_u_law_power_l1 modulus_ (m_u_law_power_k4) xs593 (exponent_, result_, square_)
theorem ok_u_law_power {P : Program} {w : World} {K : PySem.W.Frag} {mg : Str → Option Value} {base : Heap} (T : Facts K mg) {fd : FuncData} (F : FnP K "_law_power" "_law_power" s_u_law_power (He.ga K "_law_power") fd) :
    FnOk P w K mg base (L2.CX P w) 1 (He.ga K "_law_power") fd ["a", "exponent", "modulus"] (spM K (fun (p : Int × Int × Int × Unit) => m_u_law_power p.1 p.2.1 p.2.2.1)) := by
  refine fn_ok F sc_u_law_power (fun y => rfl) (fun cdv A outer s H E hr => ?_)
  refine ⟨_, (pss_cons (ps_set (i := 3) sc_u_law_power.nd rfl (Or.inl rfl) pe_int) (pss_cons (ps_set (i := 4) sc_u_law_power.nd rfl (Or.inl rfl) (pe_op op_mod (pv 0) (pv 2))) (pss_cons (ps_for (passes_of rfl) rfl (pi_range1 rfl T.n_range (pa_cons pe_int pa_nil)) (pg_name (i := 5) sc_u_law_power.nd rfl (Or.inl rfl)) (pss_cons (ps_if (pt_cmpR op_eq (pv 1) pe_int (nomark _)) (pss_one ps_break) pss_nil) (pss_cons (ps_if (pt_cmpR op_eq (pe_op op_mod (pv 1) pe_int) pe_int (nomark _)) (pss_one (ps_set (i := 3) sc_u_law_power.nd rfl (Or.inl rfl) (pe_op op_mod (pe_op op_mulX (pv 3) (pv 4)) (pv 2)))) pss_nil) (pss_cons (ps_set (i := 4) sc_u_law_power.nd rfl (Or.inl rfl) (pe_op op_mod (pe_op op_mulX (pv 4) (pv 4)) (pv 2))) (pss_one (ps_set (i := 1) sc_u_law_power.nd rfl (Or.inl rfl) (pe_op op_fdiv (pv 1) pe_int))))))) (pss_one (ps_ret (pv 3)))))), ?_⟩
  rintro ⟨a_, exponent_, modulus_, ⟨⟩⟩ F0 H0 Q KP L
  show Blk K F0 H0 KP _ [some (.im (toD a_)), some (.im (toD exponent_)), some (.im (toD modulus_)), none, none, none] (m_u_law_power a_ exponent_ modulus_)
  unfold m_u_law_power
  have hs_ := ((ev_int (i := 1)) : EvX K (W0 E) [some (.im (toD a_)), some (.im (toD exponent_)), some (.im (toD modulus_)), none, none, none] _ _)
  refine blk_seq (blk_set (i := 3) L trivial hs_ fun result_ => ?_)
  show Blk _ _ _ _ _ [some (.im (toD a_)), some (.im (toD exponent_)), some (.im (toD modulus_)), some (.im (toD result_)), none, none] _
  try refine Blk.nx ?_
  have hs_ := ((ev_op (opx_I (C := (fun _ j => 0 < j)) (g := fun i j => i % j)) mild_need (ev_var (i := 0) (x := a_) rfl) (ev_var (i := 2) (x := modulus_) rfl)) : EvX K (W0 E) [some (.im (toD a_)), some (.im (toD exponent_)), some (.im (toD modulus_)), some (.im (toD result_)), none, none] _ _)
  refine blk_seq (blk_set (i := 4) L trivial hs_ fun square_ => ?_)
  show Blk _ _ _ _ _ [some (.im (toD a_)), some (.im (toD exponent_)), some (.im (toD modulus_)), some (.im (toD result_)), some (.im (toD square_)), none] _
  try refine Blk.nx ?_
  have hi_ := ((ei_range1 (ev_int (i := 260))) : EvI K (W0 E) [some (.im (toD a_)), some (.im (toD exponent_)), some (.im (toD modulus_)), some (.im (toD result_)), some (.im (toD square_)), none] _ _)
  refine blk_seq (blk_for (S := Int × Int × Int) (m_u_law_power_l1 modulus_ (m_u_law_power_k4)) (m_u_law_power_k4) (fun (exponent_, result_, square_) => [some (.im (toD a_)), some (.im (toD exponent_)), some (.im (toD modulus_)), some (.im (toD result_)), some (.im (toD square_)), none]) (exponent_, result_, square_) L trivial hi_ (fun _ => gx_name) (.same (.same (.same (.same (.same (.same .nil)))))) (fun _ => rfl) ?_ ?_)
  · intro F1 L1 hB1 x576 r1 s_ N_ hN1
    obtain ⟨exponent_, result_, square_⟩ := s_
    show Blk _ _ _ _ _ [some (.im (toD a_)), some (.im (toD exponent_)), some (.im (toD modulus_)), some (.im (toD result_)), some (.im (toD square_)), some (.im (toD x576))] (m_u_law_power_l1 modulus_ (m_u_law_power_k4) (x576 :: r1) (exponent_, result_, square_))
    rw [m_u_law_power_l1]
    show Blk _ _ _ _ _ _ ((fun (k_ : Int) => _) x576)
    generalize x576 = k_
    show Blk _ _ _ _ _ [some (.im (toD a_)), some (.im (toD exponent_)), some (.im (toD modulus_)), some (.im (toD result_)), some (.im (toD square_)), some (.im (toD k_))] _
    have ht_ := ((et_test (ev_op opx_eqI mild_ok (ev_var (i := 1) (x := exponent_) rfl) (ev_int (i := 0)))) : EvT K (W0 E) [some (.im (toD a_)), some (.im (toD exponent_)), some (.im (toD modulus_)), some (.im (toD result_)), some (.im (toD square_)), some (.im (toD k_))] _ _)
    refine blk_seq (blk_if2 L1 trivial ht_ ?_ ?_)
    · exact (hB1 (exponent_, result_, square_)).weak (.same (.same (.same (.same (.same (.drop .nil))))))
    · refine blk_nil ?_
      try refine Blk.nx ?_
      have ht_ := ((et_test (ev_op opx_eqI mild_ok (ev_opI (C := (fun _ j => 0 < j)) (g := fun i j => i % j) (fun x y _ h => by cases h; (show (0 : Int) < _; decide)) (ev_var (i := 1) (x := exponent_) rfl) (ev_int (i := 2))) (ev_int (i := 1)))) : EvT K (W0 E) [some (.im (toD a_)), some (.im (toD exponent_)), some (.im (toD modulus_)), some (.im (toD result_)), some (.im (toD square_)), some (.im (toD k_))] _ _)
      refine blk_seq (blk_ifj (S := Int) (fun result_ => [some (.im (toD a_)), some (.im (toD exponent_)), some (.im (toD modulus_)), some (.im (toD result_)), some (.im (toD square_)), some (.im (toD k_))]) (m_u_law_power_k3 exponent_ modulus_ square_ (m_u_law_power_l1 modulus_ (m_u_law_power_k4) r1)) L1 trivial ht_ ?_ ?_ ?_)
      · intro result_
        show Blk _ _ _ _ _ [some (.im (toD a_)), some (.im (toD exponent_)), some (.im (toD modulus_)), some (.im (toD result_)), some (.im (toD square_)), some (.im (toD k_))] ((m_u_law_power_k3 exponent_ modulus_ square_ (m_u_law_power_l1 modulus_ (m_u_law_power_k4) r1)) result_)
        unfold m_u_law_power_k3
        try refine Blk.nx ?_
        have hs_ := ((ev_op (opx_I (C := (fun _ j => 0 < j)) (g := fun i j => i % j)) mild_need (ev_op (opx_I (C := CMulX) (g := fun i j => i * j)) mild_need (ev_var (i := 4) (x := square_) rfl) (ev_var (i := 4) (x := square_) rfl)) (ev_var (i := 2) (x := modulus_) rfl)) : EvX K (W0 E) [some (.im (toD a_)), some (.im (toD exponent_)), some (.im (toD modulus_)), some (.im (toD result_)), some (.im (toD square_)), some (.im (toD k_))] _ _)
        refine blk_seq (blk_set (i := 4) L1 trivial hs_ fun square_ => ?_)
        show Blk _ _ _ _ _ [some (.im (toD a_)), some (.im (toD exponent_)), some (.im (toD modulus_)), some (.im (toD result_)), some (.im (toD square_)), some (.im (toD k_))] _
        try refine Blk.nx ?_
        have hs_ := ((ev_opI (C := CDiv) (g := fun i j => i / j) (fun x y _ h => by cases h; exact ⟨by decide, by decide⟩) (ev_var (i := 1) (x := exponent_) rfl) (ev_int (i := 2))) : EvX K (W0 E) [some (.im (toD a_)), some (.im (toD exponent_)), some (.im (toD modulus_)), some (.im (toD result_)), some (.im (toD square_)), some (.im (toD k_))] _ _)
        refine blk_set (i := 1) L1 trivial hs_ fun exponent_ => ?_
        show Blk _ _ _ _ _ [some (.im (toD a_)), some (.im (toD exponent_)), some (.im (toD modulus_)), some (.im (toD result_)), some (.im (toD square_)), some (.im (toD k_))] _
        try refine Blk.nx ?_
        exact (hN1 (exponent_, result_, square_)).weak (.same (.same (.same (.same (.same (.drop .nil))))))
      · intro hk3
        have hs_ := ((ev_op (opx_I (C := (fun _ j => 0 < j)) (g := fun i j => i % j)) mild_need (ev_op (opx_I (C := CMulX) (g := fun i j => i * j)) mild_need (ev_var (i := 3) (x := result_) rfl) (ev_var (i := 4) (x := square_) rfl)) (ev_var (i := 2) (x := modulus_) rfl)) : EvX K (W0 E) [some (.im (toD a_)), some (.im (toD exponent_)), some (.im (toD modulus_)), some (.im (toD result_)), some (.im (toD square_)), some (.im (toD k_))] _ _)
        refine blk_set (i := 3) L1 trivial hs_ fun result_ => ?_
        show Blk _ _ _ _ _ [some (.im (toD a_)), some (.im (toD exponent_)), some (.im (toD modulus_)), some (.im (toD result_)), some (.im (toD square_)), some (.im (toD k_))] _
        try refine Blk.nx ?_
        exact (hk3 result_).weak (.same (.same (.same (.same (.same (.same .nil))))))
      · intro hk3
        refine blk_nil ?_
        try refine Blk.nx ?_
        exact (hk3 result_).weak (.same (.same (.same (.same (.same (.same .nil))))))
  · rintro ⟨exponent_, result_, square_⟩
    show Blk _ _ _ _ _ [some (.im (toD a_)), some (.im (toD exponent_)), some (.im (toD modulus_)), some (.im (toD result_)), some (.im (toD square_)), none] ((m_u_law_power_k4) (exponent_, result_, square_))
    unfold m_u_law_power_k4
    try refine Blk.nx ?_
    have hr_ := ((ev_var (i := 3) (x := result_) rfl) : EvX K (W0 E) [some (.im (toD a_)), some (.im (toD exponent_)), some (.im (toD modulus_)), some (.im (toD result_)), some (.im (toD square_)), none] _ _)
    exact blk_ret L trivial hr_
noncomputable def m_u_law_inverse (a_ : Int) (prime_ : Int) : Res Int :=
  (((Res.ok a_)).bind fun a597 => ((((Res.ok prime_)).bind fun (t594 : Int) => ((Res.ok (2 : Int))).bind fun (t595 : Int) => Res.ok (t594 - t595)).bind fun a599 => (((Res.ok prime_)).bind fun a601 => (Res.ok ()).bind fun a602 => Res.ok (a601, a602)).bind fun a600 => Res.ok (a599, a600)).bind fun a598 => Res.ok (a597, a598)).bind fun p596 => m_u_law_power p596.1 p596.2.1 p596.2.2.1
theorem ok_u_law_inverse {P : Program} {w : World} {K : PySem.W.Frag} {mg : Str → Option Value} {base : Heap} (T : Facts K mg) {fd : FuncData} (F : FnP K "_law_inverse" "_law_inverse" s_u_law_inverse (He.ga K "_law_inverse") fd) :
    FnOk P w K mg base (L2.CX P w) 2 (He.ga K "_law_inverse") fd ["a", "prime"] (spM K (fun (p : Int × Int × Unit) => m_u_law_inverse p.1 p.2.1)) := by
  obtain ⟨fd_u_law_power, F_u_law_power⟩ := T.d_u_law_power
  have G_u_law_power := ok_u_law_power (P := P) (w := w) (base := base) T F_u_law_power
  have b_u_law_power : Binds K fd_u_law_power ["a", "exponent", "modulus"] [] := F_u_law_power.bindsN fun _ _ _ _ _ _ us hl => match us, hl with | [_, _, _], _ => rfl
  refine fn_ok F sc_u_law_inverse (fun y => rfl) (fun cdv A outer s H E hr => ?_)
  refine ⟨_, (pss_one (ps_ret (pe_callS G_u_law_power (hr.mono (by decide)) rfl T.g_u_law_power F_u_law_power.kp b_u_law_power (fun σ => passAt (takes_of rfl rfl rfl rfl) σ) (pa_cons (pv 0) (pa_cons (pe_op op_sub (pv 1) pe_int) (pa_cons (pv 1) pa_nil)))))), ?_⟩
  rintro ⟨a_, prime_, ⟨⟩⟩ F0 H0 Q KP L
  show Blk K F0 H0 KP _ [some (.im (toD a_)), some (.im (toD prime_))] (m_u_law_inverse a_ prime_)
  unfold m_u_law_inverse
  have hr_ := ((ev_call (f := (fun (p : Int × Int × Int × Unit) => m_u_law_power p.1 p.2.1 p.2.2.1)) (ea_cons (ev_var (i := 0) (x := a_) rfl) (ea_cons (ev_op (opx_I0 (g := fun i j => i - j)) mild_ok (ev_var (i := 1) (x := prime_) rfl) (ev_int (i := 2))) (ea_cons (ev_var (i := 1) (x := prime_) rfl) ea_nil)))) : EvX K (W0 E) [some (.im (toD a_)), some (.im (toD prime_))] _ _)
  exact blk_ret L trivial hr_
noncomputable def m_u_law_residue (cell_ : Int) (prime_ : Int) : Res Int :=
  ((((Res.ok cell_)).bind fun a604 => (Res.ok ()).bind fun a605 => Res.ok (a604, a605)).bind fun p603 => Res.ok (Int.natAbs p603.1 : Int)).bind fun (rest_ : Int) =>   (((Res.ok rest_)).bind fun (t608 : Int) => (((Res.ok (10 : Int))).bind fun (t606 : Int) => ((Res.ok (18 : Int))).bind fun (t607 : Int) => Res.ok (t606 ^ t607.toNat)).bind fun (t609 : Int) => Res.ok (decide (t609 ≤ t608))).bind fun b => cond b   (((Res.ok rest_)).bind fun (t610 : Int) => ((Res.ok prime_)).bind fun (t611 : Int) => Res.need (0 < t611) (Res.ok (t610 % t611)))   (((((Res.ok rest_)).bind fun (t612 : Int) => ((Res.ok (3 : Int))).bind fun (t613 : Int) => Res.ok (t612 % t613)).bind fun (t614 : Int) => ((Res.ok (1 : Int))).bind fun (t615 : Int) => Res.ok (decide (t614 = t615))).bind fun b => cond b   ((((((Res.ok (0 : Int))).bind fun a621 => (((Res.ok (1 : Int))).bind fun a623 => (((Res.ok (2 : Int))).bind fun a625 => ((((Res.ok prime_)).bind fun (t616 : Int) => ((Res.ok (1 : Int))).bind fun (t617 : Int) => Res.ok (t616 - t617)).bind fun a627 => ((((Res.ok prime_)).bind fun (t618 : Int) => ((Res.ok (2 : Int))).bind fun (t619 : Int) => Res.ok (t618 - t619)).bind fun a629 => (((Res.ok (3 : Int))).bind fun a631 => (Res.ok ()).bind fun a632 => Res.ok (a631, a632)).bind fun a630 => Res.ok (a629, a630)).bind fun a628 => Res.ok (a627, a628)).bind fun a626 => Res.ok (a625, a626)).bind fun a624 => Res.ok (a623, a624)).bind fun a622 => Res.ok (a621, a622)).bind fun p620 => Res.ok ([p620.1, p620.2.1, p620.2.2.1, p620.2.2.2.1, p620.2.2.2.2.1, p620.2.2.2.2.2.1] : List Int)).bind fun (t637 : (List Int)) => ((((Res.ok rest_)).bind fun (t633 : Int) => ((Res.ok (3 : Int))).bind fun (t634 : Int) => Res.ok (t633 / t634)).bind fun (t635 : Int) => ((Res.ok (6 : Int))).bind fun (t636 : Int) => Res.ok (t635 % t636)).bind fun (t638 : Int) => idx t637 t638).bind fun (t639 : Int) => ((Res.ok prime_)).bind fun (t640 : Int) => Res.need (0 < t640) (Res.ok (t639 % t640)))   (((((((Res.ok rest_)).bind fun (t641 : Int) => ((Res.ok (48271 : Int))).bind fun (t642 : Int) => Res.ok (t641 * t642)).bind fun (t643 : Int) => ((Res.ok (69621 : Int))).bind fun (t644 : Int) => Res.ok (t643 * t644)).bind fun (t649 : Int) => ((((Res.ok (7919 : Int))).bind fun (t645 : Int) => ((Res.ok rest_)).bind fun (t646 : Int) => Res.ok (t645 * t646)).bind fun (t647 : Int) => ((Res.ok rest_)).bind fun (t648 : Int) => Res.need (CMulX t647 t648) (Res.ok (t647 * t648))).bind fun (t650 : Int) => Res.ok (t649 + t650)).bind fun (t651 : Int) => ((Res.ok (5 : Int))).bind fun (t652 : Int) => Res.ok (t651 + t652)).bind fun (t653 : Int) => ((Res.ok prime_)).bind fun (t654 : Int) => Res.need (0 < t654) (Res.ok (t653 % t654))))
theorem ok_u_law_residue {P : Program} {w : World} {K : PySem.W.Frag} {mg : Str → Option Value} {base : Heap} (T : Facts K mg) {fd : FuncData} (F : FnP K "_law_residue" "_law_residue" s_u_law_residue (He.ga K "_law_residue") fd) :
    FnOk P w K mg base (L2.CX P w) 1 (He.ga K "_law_residue") fd ["cell", "prime"] (spM K (fun (p : Int × Int × Unit) => m_u_law_residue p.1 p.2.1)) := by
  refine fn_ok F sc_u_law_residue (fun y => rfl) (fun cdv A outer s H E hr => ?_)
  refine ⟨_, (pss_cons (ps_set (i := 2) sc_u_law_residue.nd rfl (Or.inl rfl) (pe_callB call_abs (by rfl) T.n_abs (by decide +kernel) (pa_cons (pv 0) pa_nil))) (pss_cons (ps_if (pt_cmpR op_ge (pv 2) (pe_op op_pow pe_int pe_int) (nomark _)) (pss_one (ps_ret (pe_op op_mod (pv 2) (pv 1)))) pss_nil) (pss_cons (ps_if (pt_cmpR op_eq (pe_op op_mod (pv 2) pe_int) pe_int (nomark _)) (pss_one (ps_ret (pe_op op_mod (pe_ix (cr_ixL rfl) (pe_lst (pa_cons pe_int (pa_cons pe_int (pa_cons pe_int (pa_cons (pe_op op_sub (pv 1) pe_int) (pa_cons (pe_op op_sub (pv 1) pe_int) (pa_cons pe_int pa_nil))))))) (pe_op op_mod (pe_op op_fdiv (pv 2) pe_int) pe_int) (fun _ _ => rfl)) (pv 1)))) pss_nil) (pss_one (ps_ret (pe_op op_mod (pe_op op_add (pe_op op_add (pe_op op_mul (pe_op op_mul (pv 2) pe_int) pe_int) (pe_op op_mulX (pe_op op_mul pe_int (pv 2)) (pv 2))) pe_int) (pv 1))))))), ?_⟩
  rintro ⟨cell_, prime_, ⟨⟩⟩ F0 H0 Q KP L
  show Blk K F0 H0 KP _ [some (.im (toD cell_)), some (.im (toD prime_)), none] (m_u_law_residue cell_ prime_)
  unfold m_u_law_residue
  have hs_ := ((ev_cb cx_abs (fun _ _ h => nomatch h) (ea_cons (ev_var (i := 0) (x := cell_) rfl) ea_nil)) : EvX K (W0 E) [some (.im (toD cell_)), some (.im (toD prime_)), none] _ _)
  refine blk_seq (blk_set (i := 2) L trivial hs_ fun rest_ => ?_)
  show Blk _ _ _ _ _ [some (.im (toD cell_)), some (.im (toD prime_)), some (.im (toD rest_))] _
  try refine Blk.nx ?_
  have ht_ := ((et_test (ev_op (opx_B0 (g := fun i j => decide (j ≤ i))) mild_ok (ev_var (i := 2) (x := rest_) rfl) (ev_opI (C := CPow) (g := fun i j => i ^ j.toNat) (fun x y h1 h2 => by cases h1; cases h2; exact ⟨by decide, by decide, by decide⟩) (ev_int (i := 10)) (ev_int (i := 18))))) : EvT K (W0 E) [some (.im (toD cell_)), some (.im (toD prime_)), some (.im (toD rest_))] _ _)
  refine blk_seq (blk_if2 L trivial ht_ ?_ ?_)
  · have hr_ := ((ev_op (opx_I (C := (fun _ j => 0 < j)) (g := fun i j => i % j)) mild_need (ev_var (i := 2) (x := rest_) rfl) (ev_var (i := 1) (x := prime_) rfl)) : EvX K (W0 E) [some (.im (toD cell_)), some (.im (toD prime_)), some (.im (toD rest_))] _ _)
    exact blk_ret L trivial hr_
  · refine blk_nil ?_
    try refine Blk.nx ?_
    have ht_ := ((et_test (ev_op opx_eqI mild_ok (ev_opI (C := (fun _ j => 0 < j)) (g := fun i j => i % j) (fun x y _ h => by cases h; (show (0 : Int) < _; decide)) (ev_var (i := 2) (x := rest_) rfl) (ev_int (i := 3))) (ev_int (i := 1)))) : EvT K (W0 E) [some (.im (toD cell_)), some (.im (toD prime_)), some (.im (toD rest_))] _ _)
    refine blk_seq (blk_if2 L trivial ht_ ?_ ?_)
    · have hr_ := ((ev_op (opx_I (C := (fun _ j => 0 < j)) (g := fun i j => i % j)) mild_need (ev_op opx_ixL (fun x y => idx_mild x y) (ev_ofN (en_lst (f := (fun y => ([y.1, y.2.1, y.2.2.1, y.2.2.2.1, y.2.2.2.2.1, y.2.2.2.2.2.1] : List Int))) (ea_cons (ev_int (i := 0)) (ea_cons (ev_int (i := 1)) (ea_cons (ev_int (i := 2)) (ea_cons (ev_op (opx_I0 (g := fun i j => i - j)) mild_ok (ev_var (i := 1) (x := prime_) rfl) (ev_int (i := 1))) (ea_cons (ev_op (opx_I0 (g := fun i j => i - j)) mild_ok (ev_var (i := 1) (x := prime_) rfl) (ev_int (i := 2))) (ea_cons (ev_int (i := 3)) ea_nil)))))) (fun _ => rfl) (fun _ => by show 6 ≤ 100000; decide))) (ev_opI (C := (fun _ j => 0 < j)) (g := fun i j => i % j) (fun x y _ h => by cases h; (show (0 : Int) < _; decide)) (ev_opI (C := CDiv) (g := fun i j => i / j) (fun x y _ h => by cases h; exact ⟨by decide, by decide⟩) (ev_var (i := 2) (x := rest_) rfl) (ev_int (i := 3))) (ev_int (i := 6)))) (ev_var (i := 1) (x := prime_) rfl)) : EvX K (W0 E) [some (.im (toD cell_)), some (.im (toD prime_)), some (.im (toD rest_))] _ _)
      exact blk_ret L trivial hr_
    · refine blk_nil ?_
      try refine Blk.nx ?_
      have hr_ := ((ev_op (opx_I (C := (fun _ j => 0 < j)) (g := fun i j => i % j)) mild_need (ev_op (opx_I0 (g := fun i j => i + j)) mild_ok (ev_op (opx_I0 (g := fun i j => i + j)) mild_ok (ev_opI (C := CMul) (g := fun i j => i * j) (fun x y _ h => by cases h; exact .inr (by decide)) (ev_opI (C := CMul) (g := fun i j => i * j) (fun x y _ h => by cases h; exact .inr (by decide)) (ev_var (i := 2) (x := rest_) rfl) (ev_int (i := 48271))) (ev_int (i := 69621))) (ev_op (opx_I (C := CMulX) (g := fun i j => i * j)) mild_need (ev_opI (C := CMul) (g := fun i j => i * j) (fun x y h _ => by cases h; exact .inl (by decide)) (ev_int (i := 7919)) (ev_var (i := 2) (x := rest_) rfl)) (ev_var (i := 2) (x := rest_) rfl))) (ev_int (i := 5))) (ev_var (i := 1) (x := prime_) rfl)) : EvX K (W0 E) [some (.im (toD cell_)), some (.im (toD prime_)), some (.im (toD rest_))] _ _)
      exact blk_ret L trivial hr_
noncomputable def m_u_law_curve_and_points_k1 (prime_ : Int) (x1_ : Int) (y1_ : Int) (x2_ : Int) : Int × Int → Res (T4 Int Int (T2 Int Int) (T2 Int Int)) := fun (y2_, a_) =>   ((((((Res.ok y1_)).bind fun (t715 : Int) => ((Res.ok y1_)).bind fun (t716 : Int) => Res.need (CMulX t715 t716) (Res.ok (t715 * t716))).bind fun (t721 : Int) => ((((Res.ok x1_)).bind fun (t717 : Int) => ((Res.ok x1_)).bind fun (t718 : Int) => Res.need (CMulX t717 t718) (Res.ok (t717 * t718))).bind fun (t719 : Int) => ((Res.ok x1_)).bind fun (t720 : Int) => Res.need (CMulX t719 t720) (Res.ok (t719 * t720))).bind fun (t722 : Int) => Res.ok (t721 - t722)).bind fun (t725 : Int) => (((Res.ok a_)).bind fun (t723 : Int) => ((Res.ok x1_)).bind fun (t724 : Int) => Res.need (CMulX t723 t724) (Res.ok (t723 * t724))).bind fun (t726 : Int) => Res.ok (t725 - t726)).bind fun (t727 : Int) => ((Res.ok prime_)).bind fun (t728 : Int) => Res.need (0 < t728) (Res.ok (t727 % t728))).bind fun (b_ : Int) =>   (((Res.ok a_)).bind fun a740 => (((Res.ok b_)).bind fun a742 => (((((Res.ok x1_)).bind fun a730 => (((Res.ok y1_)).bind fun a732 => (Res.ok ()).bind fun a733 => Res.ok (a732, a733)).bind fun a731 => Res.ok (a730, a731)).bind fun p729 => Res.ok (T2.mk p729.1 p729.2.1)).bind fun a744 => (((((Res.ok x2_)).bind fun a735 => (((Res.ok y2_)).bind fun a737 => (Res.ok ()).bind fun a738 => Res.ok (a737, a738)).bind fun a736 => Res.ok (a735, a736)).bind fun p734 => Res.ok (T2.mk p734.1 p734.2.1)).bind fun a746 => (Res.ok ()).bind fun a747 => Res.ok (a746, a747)).bind fun a745 => Res.ok (a744, a745)).bind fun a743 => Res.ok (a742, a743)).bind fun a741 => Res.ok (a740, a741)).bind fun p739 => Res.ok (T4.mk p739.1 p739.2.1 p739.2.2.1 p739.2.2.2.1)
noncomputable def m_u_law_curve_and_points (script_ : (List Int)) (at_ : Int) (prime_ : Int) : Res (T4 Int Int (T2 Int Int) (T2 Int Int)) :=
  ((((((Res.ok script_)).bind fun a656 => (((Res.ok at_)).bind fun a658 => (Res.ok ()).bind fun a659 => Res.ok (a658, a659)).bind fun a657 => Res.ok (a656, a657)).bind fun p655 => m_u_law_cell p655.1 p655.2.1).bind fun a661 => (((Res.ok prime_)).bind fun a663 => (Res.ok ()).bind fun a664 => Res.ok (a663, a664)).bind fun a662 => Res.ok (a661, a662)).bind fun p660 => m_u_law_residue p660.1 p660.2.1).bind fun (x1_ : Int) =>   ((((((Res.ok script_)).bind fun a668 => ((((Res.ok at_)).bind fun (t665 : Int) => ((Res.ok (1 : Int))).bind fun (t666 : Int) => Res.ok (t665 + t666)).bind fun a670 => (Res.ok ()).bind fun a671 => Res.ok (a670, a671)).bind fun a669 => Res.ok (a668, a669)).bind fun p667 => m_u_law_cell p667.1 p667.2.1).bind fun a673 => (((Res.ok prime_)).bind fun a675 => (Res.ok ()).bind fun a676 => Res.ok (a675, a676)).bind fun a674 => Res.ok (a673, a674)).bind fun p672 => m_u_law_residue p672.1 p672.2.1).bind fun (y1_ : Int) =>   ((((((Res.ok script_)).bind fun a680 => ((((Res.ok at_)).bind fun (t677 : Int) => ((Res.ok (2 : Int))).bind fun (t678 : Int) => Res.ok (t677 + t678)).bind fun a682 => (Res.ok ()).bind fun a683 => Res.ok (a682, a683)).bind fun a681 => Res.ok (a680, a681)).bind fun p679 => m_u_law_cell p679.1 p679.2.1).bind fun a685 => (((Res.ok prime_)).bind fun a687 => (Res.ok ()).bind fun a688 => Res.ok (a687, a688)).bind fun a686 => Res.ok (a685, a686)).bind fun p684 => m_u_law_residue p684.1 p684.2.1).bind fun (x2_ : Int) =>   ((((((Res.ok script_)).bind fun a692 => ((((Res.ok at_)).bind fun (t689 : Int) => ((Res.ok (3 : Int))).bind fun (t690 : Int) => Res.ok (t689 + t690)).bind fun a694 => (Res.ok ()).bind fun a695 => Res.ok (a694, a695)).bind fun a693 => Res.ok (a692, a693)).bind fun p691 => m_u_law_cell p691.1 p691.2.1).bind fun a697 => (((Res.ok prime_)).bind fun a699 => (Res.ok ()).bind fun a700 => Res.ok (a699, a700)).bind fun a698 => Res.ok (a697, a698)).bind fun p696 => m_u_law_residue p696.1 p696.2.1).bind fun (y2_ : Int) =>   ((((((Res.ok script_)).bind fun a704 => ((((Res.ok at_)).bind fun (t701 : Int) => ((Res.ok (4 : Int))).bind fun (t702 : Int) => Res.ok (t701 + t702)).bind fun a706 => (Res.ok ()).bind fun a707 => Res.ok (a706, a707)).bind fun a705 => Res.ok (a704, a705)).bind fun p703 => m_u_law_cell p703.1 p703.2.1).bind fun a709 => (((Res.ok prime_)).bind fun a711 => (Res.ok ()).bind fun a712 => Res.ok (a711, a712)).bind fun a710 => Res.ok (a709, a710)).bind fun p708 => m_u_law_residue p708.1 p708.2.1).bind fun (a_ : Int) =>   (((Res.ok x1_)).bind fun (t713 : Int) => ((Res.ok x2_)).bind fun (t714 : Int) => Res.ok (decide (t713 = t714))).bind fun b => cond b   ((((((Res.ok y1_)).bind fun a752 => (((((Res.ok y1_)).bind fun (t748 : Int) => Res.ok (-t748)).bind fun (t749 : Int) => ((Res.ok prime_)).bind fun (t750 : Int) => Res.need (0 < t750) (Res.ok (t749 % t750))).bind fun a754 => (Res.ok ()).bind fun a755 => Res.ok (a754, a755)).bind fun a753 => Res.ok (a752, a753)).bind fun p751 => Res.ok ([p751.1, p751.2.1] : List Int)).bind fun (t768 : (List Int)) => (((((((Res.ok script_)).bind fun a759 => ((((Res.ok at_)).bind fun (t756 : Int) => ((Res.ok (3 : Int))).bind fun (t757 : Int) => Res.ok (t756 + t757)).bind fun a761 => (Res.ok ()).bind fun a762 => Res.ok (a761, a762)).bind fun a760 => Res.ok (a759, a760)).bind fun p758 => m_u_law_cell p758.1 p758.2.1).bind fun a764 => (Res.ok ()).bind fun a765 => Res.ok (a764, a765)).bind fun p763 => Res.ok (Int.natAbs p763.1 : Int)).bind fun (t766 : Int) => ((Res.ok (2 : Int))).bind fun (t767 : Int) => Res.ok (t766 % t767)).bind fun (t769 : Int) => idx t768 t769).bind fun (y2_ : Int) =>   (m_u_law_curve_and_points_k1 prime_ x1_ y1_ x2_) (y2_, a_))   (((((((((Res.ok y2_)).bind fun (t770 : Int) => ((Res.ok y2_)).bind fun (t771 : Int) => Res.need (CMulX t770 t771) (Res.ok (t770 * t771))).bind fun (t776 : Int) => ((((Res.ok x2_)).bind fun (t772 : Int) => ((Res.ok x2_)).bind fun (t773 : Int) => Res.need (CMulX t772 t773) (Res.ok (t772 * t773))).bind fun (t774 : Int) => ((Res.ok x2_)).bind fun (t775 : Int) => Res.need (CMulX t774 t775) (Res.ok (t774 * t775))).bind fun (t777 : Int) => Res.ok (t776 - t777)).bind fun (t780 : Int) => (((Res.ok y1_)).bind fun (t778 : Int) => ((Res.ok y1_)).bind fun (t779 : Int) => Res.need (CMulX t778 t779) (Res.ok (t778 * t779))).bind fun (t781 : Int) => Res.ok (t780 - t781)).bind fun (t786 : Int) => ((((Res.ok x1_)).bind fun (t782 : Int) => ((Res.ok x1_)).bind fun (t783 : Int) => Res.need (CMulX t782 t783) (Res.ok (t782 * t783))).bind fun (t784 : Int) => ((Res.ok x1_)).bind fun (t785 : Int) => Res.need (CMulX t784 t785) (Res.ok (t784 * t785))).bind fun (t787 : Int) => Res.ok (t786 + t787)).bind fun (t795 : Int) => (((((Res.ok x2_)).bind fun (t788 : Int) => ((Res.ok x1_)).bind fun (t789 : Int) => Res.ok (t788 - t789)).bind fun a791 => (((Res.ok prime_)).bind fun a793 => (Res.ok ()).bind fun a794 => Res.ok (a793, a794)).bind fun a792 => Res.ok (a791, a792)).bind fun p790 => m_u_law_inverse p790.1 p790.2.1).bind fun (t796 : Int) => Res.need (CMulX t795 t796) (Res.ok (t795 * t796))).bind fun (t797 : Int) => ((Res.ok prime_)).bind fun (t798 : Int) => Res.need (0 < t798) (Res.ok (t797 % t798))).bind fun (a_ : Int) =>   (m_u_law_curve_and_points_k1 prime_ x1_ y1_ x2_) (y2_, a_))
theorem ok_u_law_curve_and_points {P : Program} {w : World} {K : PySem.W.Frag} {mg : Str → Option Value} {base : Heap} (T : Facts K mg) {fd : FuncData} (F : FnP K "_law_curve_and_points" "_law_curve_and_points" s_u_law_curve_and_points (He.ga K "_law_curve_and_points") fd) :
    FnOk P w K mg base (L2.CX P w) 3 (He.ga K "_law_curve_and_points") fd ["script", "at", "prime"] (spM K (fun (p : (List Int) × Int × Int × Unit) => m_u_law_curve_and_points p.1 p.2.1 p.2.2.1)) := by
  obtain ⟨fd_u_law_cell, F_u_law_cell⟩ := T.d_u_law_cell
  have G_u_law_cell := ok_u_law_cell (P := P) (w := w) (base := base) T F_u_law_cell
  have b_u_law_cell : Binds K fd_u_law_cell ["script", "k"] [] := F_u_law_cell.bindsN fun _ _ _ _ _ _ us hl => match us, hl with | [_, _], _ => rfl
  obtain ⟨fd_u_law_inverse, F_u_law_inverse⟩ := T.d_u_law_inverse
  have G_u_law_inverse := ok_u_law_inverse (P := P) (w := w) (base := base) T F_u_law_inverse
  have b_u_law_inverse : Binds K fd_u_law_inverse ["a", "prime"] [] := F_u_law_inverse.bindsN fun _ _ _ _ _ _ us hl => match us, hl with | [_, _], _ => rfl
  obtain ⟨fd_u_law_residue, F_u_law_residue⟩ := T.d_u_law_residue
  have G_u_law_residue := ok_u_law_residue (P := P) (w := w) (base := base) T F_u_law_residue
  have b_u_law_residue : Binds K fd_u_law_residue ["cell", "prime"] [] := F_u_law_residue.bindsN fun _ _ _ _ _ _ us hl => match us, hl with | [_, _], _ => rfl
  refine fn_ok F sc_u_law_curve_and_points (fun y => rfl) (fun cdv A outer s H E hr => ?_)
  refine ⟨_, (pss_cons (ps_set (i := 3) sc_u_law_curve_and_points.nd rfl (Or.inl rfl) (pe_callS G_u_law_residue (hr.mono (by decide)) rfl T.g_u_law_residue F_u_law_residue.kp b_u_law_residue (fun σ => passAt (takes_of rfl rfl rfl rfl) σ) (pa_cons (pe_callS G_u_law_cell (hr.mono (by decide)) rfl T.g_u_law_cell F_u_law_cell.kp b_u_law_cell (fun σ => passAt (takes_of rfl rfl rfl rfl) σ) (pa_cons (pv 0) (pa_cons (pv 1) pa_nil))) (pa_cons (pv 2) pa_nil)))) (pss_cons (ps_set (i := 4) sc_u_law_curve_and_points.nd rfl (Or.inl rfl) (pe_callS G_u_law_residue (hr.mono (by decide)) rfl T.g_u_law_residue F_u_law_residue.kp b_u_law_residue (fun σ => passAt (takes_of rfl rfl rfl rfl) σ) (pa_cons (pe_callS G_u_law_cell (hr.mono (by decide)) rfl T.g_u_law_cell F_u_law_cell.kp b_u_law_cell (fun σ => passAt (takes_of rfl rfl rfl rfl) σ) (pa_cons (pv 0) (pa_cons (pe_op op_add (pv 1) pe_int) pa_nil))) (pa_cons (pv 2) pa_nil)))) (pss_cons (ps_set (i := 5) sc_u_law_curve_and_points.nd rfl (Or.inl rfl) (pe_callS G_u_law_residue (hr.mono (by decide)) rfl T.g_u_law_residue F_u_law_residue.kp b_u_law_residue (fun σ => passAt (takes_of rfl rfl rfl rfl) σ) (pa_cons (pe_callS G_u_law_cell (hr.mono (by decide)) rfl T.g_u_law_cell F_u_law_cell.kp b_u_law_cell (fun σ => passAt (takes_of rfl rfl rfl rfl) σ) (pa_cons (pv 0) (pa_cons (pe_op op_add (pv 1) pe_int) pa_nil))) (pa_cons (pv 2) pa_nil)))) (pss_cons (ps_set (i := 6) sc_u_law_curve_and_points.nd rfl (Or.inl rfl) (pe_callS G_u_law_residue (hr.mono (by decide)) rfl T.g_u_law_residue F_u_law_residue.kp b_u_law_residue (fun σ => passAt (takes_of rfl rfl rfl rfl) σ) (pa_cons (pe_callS G_u_law_cell (hr.mono (by decide)) rfl T.g_u_law_cell F_u_law_cell.kp b_u_law_cell (fun σ => passAt (takes_of rfl rfl rfl rfl) σ) (pa_cons (pv 0) (pa_cons (pe_op op_add (pv 1) pe_int) pa_nil))) (pa_cons (pv 2) pa_nil)))) (pss_cons (ps_set (i := 7) sc_u_law_curve_and_points.nd rfl (Or.inl rfl) (pe_callS G_u_law_residue (hr.mono (by decide)) rfl T.g_u_law_residue F_u_law_residue.kp b_u_law_residue (fun σ => passAt (takes_of rfl rfl rfl rfl) σ) (pa_cons (pe_callS G_u_law_cell (hr.mono (by decide)) rfl T.g_u_law_cell F_u_law_cell.kp b_u_law_cell (fun σ => passAt (takes_of rfl rfl rfl rfl) σ) (pa_cons (pv 0) (pa_cons (pe_op op_add (pv 1) pe_int) pa_nil))) (pa_cons (pv 2) pa_nil)))) (pss_cons (ps_if (pt_cmpR op_eq (pv 3) (pv 5) (nomark _)) (pss_one (ps_set (i := 6) sc_u_law_curve_and_points.nd rfl (Or.inl rfl) (pe_ix (cr_ixL rfl) (pe_lst (pa_cons (pv 4) (pa_cons (pe_op op_mod (pe_un un_neg (pv 4)) (pv 2)) pa_nil))) (pe_op op_mod (pe_callB call_abs (by rfl) T.n_abs (by decide +kernel) (pa_cons (pe_callS G_u_law_cell (hr.mono (by decide)) rfl T.g_u_law_cell F_u_law_cell.kp b_u_law_cell (fun σ => passAt (takes_of rfl rfl rfl rfl) σ) (pa_cons (pv 0) (pa_cons (pe_op op_add (pv 1) pe_int) pa_nil))) pa_nil)) pe_int) (fun _ _ => rfl)))) (pss_one (ps_set (i := 7) sc_u_law_curve_and_points.nd rfl (Or.inl rfl) (pe_op op_mod (pe_op op_mulX (pe_op op_add (pe_op op_sub (pe_op op_sub (pe_op op_mulX (pv 6) (pv 6)) (pe_op op_mulX (pe_op op_mulX (pv 5) (pv 5)) (pv 5))) (pe_op op_mulX (pv 4) (pv 4))) (pe_op op_mulX (pe_op op_mulX (pv 3) (pv 3)) (pv 3))) (pe_callS G_u_law_inverse (hr.mono (by decide)) rfl T.g_u_law_inverse F_u_law_inverse.kp b_u_law_inverse (fun σ => passAt (takes_of rfl rfl rfl rfl) σ) (pa_cons (pe_op op_sub (pv 5) (pv 3)) (pa_cons (pv 2) pa_nil)))) (pv 2))))) (pss_cons (ps_set (i := 8) sc_u_law_curve_and_points.nd rfl (Or.inl rfl) (pe_op op_mod (pe_op op_sub (pe_op op_sub (pe_op op_mulX (pv 4) (pv 4)) (pe_op op_mulX (pe_op op_mulX (pv 3) (pv 3)) (pv 3))) (pe_op op_mulX (pv 7) (pv 3))) (pv 2))) (pss_one (ps_ret (pe_tup (pa_cons (pv 7) (pa_cons (pv 8) (pa_cons (pe_tup (pa_cons (pv 3) (pa_cons (pv 4) pa_nil))) (pa_cons (pe_tup (pa_cons (pv 5) (pa_cons (pv 6) pa_nil))) pa_nil)))))))))))))), ?_⟩
  rintro ⟨script_, at_, prime_, ⟨⟩⟩ F0 H0 Q KP L
  show Blk K F0 H0 KP _ [some (.im (toD script_)), some (.im (toD at_)), some (.im (toD prime_)), none, none, none, none, none, none] (m_u_law_curve_and_points script_ at_ prime_)
  unfold m_u_law_curve_and_points
  have hs_ := ((ev_call (f := (fun (p : Int × Int × Unit) => m_u_law_residue p.1 p.2.1)) (ea_cons (ev_call (f := (fun (p : (List Int) × Int × Unit) => m_u_law_cell p.1 p.2.1)) (ea_cons (ev_var (i := 0) (x := script_) rfl) (ea_cons (ev_var (i := 1) (x := at_) rfl) ea_nil))) (ea_cons (ev_var (i := 2) (x := prime_) rfl) ea_nil))) : EvX K (W0 E) [some (.im (toD script_)), some (.im (toD at_)), some (.im (toD prime_)), none, none, none, none, none, none] _ _)
  refine blk_seq (blk_set (i := 3) L trivial hs_ fun x1_ => ?_)
  show Blk _ _ _ _ _ [some (.im (toD script_)), some (.im (toD at_)), some (.im (toD prime_)), some (.im (toD x1_)), none, none, none, none, none] _
  try refine Blk.nx ?_
  have hs_ := ((ev_call (f := (fun (p : Int × Int × Unit) => m_u_law_residue p.1 p.2.1)) (ea_cons (ev_call (f := (fun (p : (List Int) × Int × Unit) => m_u_law_cell p.1 p.2.1)) (ea_cons (ev_var (i := 0) (x := script_) rfl) (ea_cons (ev_op (opx_I0 (g := fun i j => i + j)) mild_ok (ev_var (i := 1) (x := at_) rfl) (ev_int (i := 1))) ea_nil))) (ea_cons (ev_var (i := 2) (x := prime_) rfl) ea_nil))) : EvX K (W0 E) [some (.im (toD script_)), some (.im (toD at_)), some (.im (toD prime_)), some (.im (toD x1_)), none, none, none, none, none] _ _)
  refine blk_seq (blk_set (i := 4) L trivial hs_ fun y1_ => ?_)
  show Blk _ _ _ _ _ [some (.im (toD script_)), some (.im (toD at_)), some (.im (toD prime_)), some (.im (toD x1_)), some (.im (toD y1_)), none, none, none, none] _
  try refine Blk.nx ?_
  have hs_ := ((ev_call (f := (fun (p : Int × Int × Unit) => m_u_law_residue p.1 p.2.1)) (ea_cons (ev_call (f := (fun (p : (List Int) × Int × Unit) => m_u_law_cell p.1 p.2.1)) (ea_cons (ev_var (i := 0) (x := script_) rfl) (ea_cons (ev_op (opx_I0 (g := fun i j => i + j)) mild_ok (ev_var (i := 1) (x := at_) rfl) (ev_int (i := 2))) ea_nil))) (ea_cons (ev_var (i := 2) (x := prime_) rfl) ea_nil))) : EvX K (W0 E) [some (.im (toD script_)), some (.im (toD at_)), some (.im (toD prime_)), some (.im (toD x1_)), some (.im (toD y1_)), none, none, none, none] _ _)
  refine blk_seq (blk_set (i := 5) L trivial hs_ fun x2_ => ?_)
  show Blk _ _ _ _ _ [some (.im (toD script_)), some (.im (toD at_)), some (.im (toD prime_)), some (.im (toD x1_)), some (.im (toD y1_)), some (.im (toD x2_)), none, none, none] _
  try refine Blk.nx ?_
  have hs_ := ((ev_call (f := (fun (p : Int × Int × Unit) => m_u_law_residue p.1 p.2.1)) (ea_cons (ev_call (f := (fun (p : (List Int) × Int × Unit) => m_u_law_cell p.1 p.2.1)) (ea_cons (ev_var (i := 0) (x := script_) rfl) (ea_cons (ev_op (opx_I0 (g := fun i j => i + j)) mild_ok (ev_var (i := 1) (x := at_) rfl) (ev_int (i := 3))) ea_nil))) (ea_cons (ev_var (i := 2) (x := prime_) rfl) ea_nil))) : EvX K (W0 E) [some (.im (toD script_)), some (.im (toD at_)), some (.im (toD prime_)), some (.im (toD x1_)), some (.im (toD y1_)), some (.im (toD x2_)), none, none, none] _ _)
  refine blk_seq (blk_set (i := 6) L trivial hs_ fun y2_ => ?_)
  show Blk _ _ _ _ _ [some (.im (toD script_)), some (.im (toD at_)), some (.im (toD prime_)), some (.im (toD x1_)), some (.im (toD y1_)), some (.im (toD x2_)), some (.im (toD y2_)), none, none] _
  try refine Blk.nx ?_
  have hs_ := ((ev_call (f := (fun (p : Int × Int × Unit) => m_u_law_residue p.1 p.2.1)) (ea_cons (ev_call (f := (fun (p : (List Int) × Int × Unit) => m_u_law_cell p.1 p.2.1)) (ea_cons (ev_var (i := 0) (x := script_) rfl) (ea_cons (ev_op (opx_I0 (g := fun i j => i + j)) mild_ok (ev_var (i := 1) (x := at_) rfl) (ev_int (i := 4))) ea_nil))) (ea_cons (ev_var (i := 2) (x := prime_) rfl) ea_nil))) : EvX K (W0 E) [some (.im (toD script_)), some (.im (toD at_)), some (.im (toD prime_)), some (.im (toD x1_)), some (.im (toD y1_)), some (.im (toD x2_)), some (.im (toD y2_)), none, none] _ _)
  refine blk_seq (blk_set (i := 7) L trivial hs_ fun a_ => ?_)
  show Blk _ _ _ _ _ [some (.im (toD script_)), some (.im (toD at_)), some (.im (toD prime_)), some (.im (toD x1_)), some (.im (toD y1_)), some (.im (toD x2_)), some (.im (toD y2_)), some (.im (toD a_)), none] _
  try refine Blk.nx ?_
  have ht_ := ((et_test (ev_op opx_eqI mild_ok (ev_var (i := 3) (x := x1_) rfl) (ev_var (i := 5) (x := x2_) rfl))) : EvT K (W0 E) [some (.im (toD script_)), some (.im (toD at_)), some (.im (toD prime_)), some (.im (toD x1_)), some (.im (toD y1_)), some (.im (toD x2_)), some (.im (toD y2_)), some (.im (toD a_)), none] _ _)
  refine blk_seq (blk_ifj (S := Int × Int) (fun (y2_, a_) => [some (.im (toD script_)), some (.im (toD at_)), some (.im (toD prime_)), some (.im (toD x1_)), some (.im (toD y1_)), some (.im (toD x2_)), some (.im (toD y2_)), some (.im (toD a_)), none]) (m_u_law_curve_and_points_k1 prime_ x1_ y1_ x2_) L trivial ht_ ?_ ?_ ?_)
  · rintro ⟨y2_, a_⟩
    show Blk _ _ _ _ _ [some (.im (toD script_)), some (.im (toD at_)), some (.im (toD prime_)), some (.im (toD x1_)), some (.im (toD y1_)), some (.im (toD x2_)), some (.im (toD y2_)), some (.im (toD a_)), none] ((m_u_law_curve_and_points_k1 prime_ x1_ y1_ x2_) (y2_, a_))
    unfold m_u_law_curve_and_points_k1
    try refine Blk.nx ?_
    have hs_ := ((ev_op (opx_I (C := (fun _ j => 0 < j)) (g := fun i j => i % j)) mild_need (ev_op (opx_I0 (g := fun i j => i - j)) mild_ok (ev_op (opx_I0 (g := fun i j => i - j)) mild_ok (ev_op (opx_I (C := CMulX) (g := fun i j => i * j)) mild_need (ev_var (i := 4) (x := y1_) rfl) (ev_var (i := 4) (x := y1_) rfl)) (ev_op (opx_I (C := CMulX) (g := fun i j => i * j)) mild_need (ev_op (opx_I (C := CMulX) (g := fun i j => i * j)) mild_need (ev_var (i := 3) (x := x1_) rfl) (ev_var (i := 3) (x := x1_) rfl)) (ev_var (i := 3) (x := x1_) rfl))) (ev_op (opx_I (C := CMulX) (g := fun i j => i * j)) mild_need (ev_var (i := 7) (x := a_) rfl) (ev_var (i := 3) (x := x1_) rfl))) (ev_var (i := 2) (x := prime_) rfl)) : EvX K (W0 E) [some (.im (toD script_)), some (.im (toD at_)), some (.im (toD prime_)), some (.im (toD x1_)), some (.im (toD y1_)), some (.im (toD x2_)), some (.im (toD y2_)), some (.im (toD a_)), none] _ _)
    refine blk_seq (blk_set (i := 8) L trivial hs_ fun b_ => ?_)
    show Blk _ _ _ _ _ [some (.im (toD script_)), some (.im (toD at_)), some (.im (toD prime_)), some (.im (toD x1_)), some (.im (toD y1_)), some (.im (toD x2_)), some (.im (toD y2_)), some (.im (toD a_)), some (.im (toD b_))] _
    try refine Blk.nx ?_
    have hr_ := ((ev_tup (f := (fun y => T4.mk y.1 y.2.1 y.2.2.1 y.2.2.2.1)) (ea_cons (ev_var (i := 7) (x := a_) rfl) (ea_cons (ev_var (i := 8) (x := b_) rfl) (ea_cons (ev_tup (f := (fun y => T2.mk y.1 y.2.1)) (ea_cons (ev_var (i := 3) (x := x1_) rfl) (ea_cons (ev_var (i := 4) (x := y1_) rfl) ea_nil)) (fun _ => rfl) (fun _ => by show 2 ≤ 100000; decide)) (ea_cons (ev_tup (f := (fun y => T2.mk y.1 y.2.1)) (ea_cons (ev_var (i := 5) (x := x2_) rfl) (ea_cons (ev_var (i := 6) (x := y2_) rfl) ea_nil)) (fun _ => rfl) (fun _ => by show 2 ≤ 100000; decide)) ea_nil)))) (fun _ => rfl) (fun _ => by show 4 ≤ 100000; decide)) : EvX K (W0 E) [some (.im (toD script_)), some (.im (toD at_)), some (.im (toD prime_)), some (.im (toD x1_)), some (.im (toD y1_)), some (.im (toD x2_)), some (.im (toD y2_)), some (.im (toD a_)), some (.im (toD b_))] _ _)
    exact blk_ret L trivial hr_
  · intro hk1
    have hs_ := ((ev_op opx_ixL (fun x y => idx_mild x y) (ev_ofN (en_lst (f := (fun y => ([y.1, y.2.1] : List Int))) (ea_cons (ev_var (i := 4) (x := y1_) rfl) (ea_cons (ev_op (opx_I (C := (fun _ j => 0 < j)) (g := fun i j => i % j)) mild_need (ev_un (g := fun i => -i) (ev_var (i := 4) (x := y1_) rfl)) (ev_var (i := 2) (x := prime_) rfl)) ea_nil)) (fun _ => rfl) (fun _ => by show 2 ≤ 100000; decide))) (ev_opI (C := (fun _ j => 0 < j)) (g := fun i j => i % j) (fun x y _ h => by cases h; (show (0 : Int) < _; decide)) (ev_cb cx_abs (fun _ _ h => nomatch h) (ea_cons (ev_call (f := (fun (p : (List Int) × Int × Unit) => m_u_law_cell p.1 p.2.1)) (ea_cons (ev_var (i := 0) (x := script_) rfl) (ea_cons (ev_op (opx_I0 (g := fun i j => i + j)) mild_ok (ev_var (i := 1) (x := at_) rfl) (ev_int (i := 3))) ea_nil))) ea_nil)) (ev_int (i := 2)))) : EvX K (W0 E) [some (.im (toD script_)), some (.im (toD at_)), some (.im (toD prime_)), some (.im (toD x1_)), some (.im (toD y1_)), some (.im (toD x2_)), some (.im (toD y2_)), some (.im (toD a_)), none] _ _)
    refine blk_set (i := 6) L trivial hs_ fun y2_ => ?_
    show Blk _ _ _ _ _ [some (.im (toD script_)), some (.im (toD at_)), some (.im (toD prime_)), some (.im (toD x1_)), some (.im (toD y1_)), some (.im (toD x2_)), some (.im (toD y2_)), some (.im (toD a_)), none] _
    try refine Blk.nx ?_
    exact (hk1 (y2_, a_)).weak (.same (.same (.same (.same (.same (.same (.same (.same (.same .nil)))))))))
  · intro hk1
    have hs_ := ((ev_op (opx_I (C := (fun _ j => 0 < j)) (g := fun i j => i % j)) mild_need (ev_op (opx_I (C := CMulX) (g := fun i j => i * j)) mild_need (ev_op (opx_I0 (g := fun i j => i + j)) mild_ok (ev_op (opx_I0 (g := fun i j => i - j)) mild_ok (ev_op (opx_I0 (g := fun i j => i - j)) mild_ok (ev_op (opx_I (C := CMulX) (g := fun i j => i * j)) mild_need (ev_var (i := 6) (x := y2_) rfl) (ev_var (i := 6) (x := y2_) rfl)) (ev_op (opx_I (C := CMulX) (g := fun i j => i * j)) mild_need (ev_op (opx_I (C := CMulX) (g := fun i j => i * j)) mild_need (ev_var (i := 5) (x := x2_) rfl) (ev_var (i := 5) (x := x2_) rfl)) (ev_var (i := 5) (x := x2_) rfl))) (ev_op (opx_I (C := CMulX) (g := fun i j => i * j)) mild_need (ev_var (i := 4) (x := y1_) rfl) (ev_var (i := 4) (x := y1_) rfl))) (ev_op (opx_I (C := CMulX) (g := fun i j => i * j)) mild_need (ev_op (opx_I (C := CMulX) (g := fun i j => i * j)) mild_need (ev_var (i := 3) (x := x1_) rfl) (ev_var (i := 3) (x := x1_) rfl)) (ev_var (i := 3) (x := x1_) rfl))) (ev_call (f := (fun (p : Int × Int × Unit) => m_u_law_inverse p.1 p.2.1)) (ea_cons (ev_op (opx_I0 (g := fun i j => i - j)) mild_ok (ev_var (i := 5) (x := x2_) rfl) (ev_var (i := 3) (x := x1_) rfl)) (ea_cons (ev_var (i := 2) (x := prime_) rfl) ea_nil)))) (ev_var (i := 2) (x := prime_) rfl)) : EvX K (W0 E) [some (.im (toD script_)), some (.im (toD at_)), some (.im (toD prime_)), some (.im (toD x1_)), some (.im (toD y1_)), some (.im (toD x2_)), some (.im (toD y2_)), some (.im (toD a_)), none] _ _)
    refine blk_set (i := 7) L trivial hs_ fun a_ => ?_
    show Blk _ _ _ _ _ [some (.im (toD script_)), some (.im (toD at_)), some (.im (toD prime_)), some (.im (toD x1_)), some (.im (toD y1_)), some (.im (toD x2_)), some (.im (toD y2_)), some (.im (toD a_)), none] _
    try refine Blk.nx ?_
    exact (hk1 (y2_, a_)).weak (.same (.same (.same (.same (.same (.same (.same (.same (.same .nil)))))))))
noncomputable def m_u_law_add_k4 (prime_ : Int) (x1_ : Int) (y1_ : Int) (x2_ : Int) : Int → Res (Option (T2 Int Int)) := fun slope_ =>   ((((((Res.ok slope_)).bind fun (t833 : Int) => ((Res.ok slope_)).bind fun (t834 : Int) => Res.need (CMulX t833 t834) (Res.ok (t833 * t834))).bind fun (t835 : Int) => ((Res.ok x1_)).bind fun (t836 : Int) => Res.ok (t835 - t836)).bind fun (t837 : Int) => ((Res.ok x2_)).bind fun (t838 : Int) => Res.ok (t837 - t838)).bind fun (t839 : Int) => ((Res.ok prime_)).bind fun (t840 : Int) => Res.need (0 < t840) (Res.ok (t839 % t840))).bind fun (x3_ : Int) =>   ((((Res.ok x3_)).bind fun a850 => ((((((Res.ok slope_)).bind fun (t843 : Int) => (((Res.ok x1_)).bind fun (t841 : Int) => ((Res.ok x3_)).bind fun (t842 : Int) => Res.ok (t841 - t842)).bind fun (t844 : Int) => Res.need (CMulX t843 t844) (Res.ok (t843 * t844))).bind fun (t845 : Int) => ((Res.ok y1_)).bind fun (t846 : Int) => Res.ok (t845 - t846)).bind fun (t847 : Int) => ((Res.ok prime_)).bind fun (t848 : Int) => Res.need (0 < t848) (Res.ok (t847 % t848))).bind fun a852 => (Res.ok ()).bind fun a853 => Res.ok (a852, a853)).bind fun a851 => Res.ok (a850, a851)).bind fun p849 => Res.ok (T2.mk p849.1 p849.2.1)).bind fun (x : (T2 Int Int)) => Res.ok (some x)
noncomputable def m_u_law_add (prime_ : Int) (a_ : Int) (first_ : (Option (T2 Int Int))) (second_ : (Option (T2 Int Int))) : Res (Option (T2 Int Int)) :=
  (((Res.ok first_)).bind fun (t799 : (Option (T2 Int Int))) => ((Res.ok ())).bind fun (t800 : Unit) => Res.ok (toD t799).isNon).bind fun b => cond b   ((Res.ok second_))   ((((Res.ok second_)).bind fun (t801 : (Option (T2 Int Int))) => ((Res.ok ())).bind fun (t802 : Unit) => Res.ok (toD t801).isNon).bind fun b => cond b   ((Res.ok first_))   ((((Res.ok first_)).bind optGet).bind fun (u803 : (T2 Int Int)) =>   (fun (x1_ : Int) (y1_ : Int) => (((Res.ok second_)).bind optGet).bind fun (u804 : (T2 Int Int)) =>   (fun (x2_ : Int) (y2_ : Int) => ((((Res.ok x1_)).bind fun (t805 : Int) => ((Res.ok x2_)).bind fun (t806 : Int) => Res.ok (decide (t805 = t806))).bind fun b813 => cond b813 (((((Res.ok y1_)).bind fun (t807 : Int) => ((Res.ok y2_)).bind fun (t808 : Int) => Res.ok (t807 + t808)).bind fun (t809 : Int) => ((Res.ok prime_)).bind fun (t810 : Int) => Res.need (0 < t810) (Res.ok (t809 % t810))).bind fun (t811 : Int) => ((Res.ok (0 : Int))).bind fun (t812 : Int) => Res.ok (decide (t811 = t812))) (Res.ok false)).bind fun b => cond b   ((Res.ok (none : (Option (T2 Int Int)))))   ((((Res.ok x1_)).bind fun (t814 : Int) => ((Res.ok x2_)).bind fun (t815 : Int) => Res.ok (decide (t814 = t815))).bind fun b => cond b   ((((((((Res.ok (3 : Int))).bind fun (t854 : Int) => ((Res.ok x1_)).bind fun (t855 : Int) => Res.ok (t854 * t855)).bind fun (t856 : Int) => ((Res.ok x1_)).bind fun (t857 : Int) => Res.need (CMulX t856 t857) (Res.ok (t856 * t857))).bind fun (t858 : Int) => ((Res.ok a_)).bind fun (t859 : Int) => Res.ok (t858 + t859)).bind fun (t867 : Int) => (((((Res.ok (2 : Int))).bind fun (t860 : Int) => ((Res.ok y1_)).bind fun (t861 : Int) => Res.ok (t860 * t861)).bind fun a863 => (((Res.ok prime_)).bind fun a865 => (Res.ok ()).bind fun a866 => Res.ok (a865, a866)).bind fun a864 => Res.ok (a863, a864)).bind fun p862 => m_u_law_inverse p862.1 p862.2.1).bind fun (t868 : Int) => Res.need (CMulX t867 t868) (Res.ok (t867 * t868))).bind fun (t869 : Int) => ((Res.ok prime_)).bind fun (t870 : Int) => Res.need (0 < t870) (Res.ok (t869 % t870))).bind fun (slope_ : Int) =>   (m_u_law_add_k4 prime_ x1_ y1_ x2_) slope_)   ((((((Res.ok y2_)).bind fun (t871 : Int) => ((Res.ok y1_)).bind fun (t872 : Int) => Res.ok (t871 - t872)).bind fun (t880 : Int) => (((((Res.ok x2_)).bind fun (t873 : Int) => ((Res.ok x1_)).bind fun (t874 : Int) => Res.ok (t873 - t874)).bind fun a876 => (((Res.ok prime_)).bind fun a878 => (Res.ok ()).bind fun a879 => Res.ok (a878, a879)).bind fun a877 => Res.ok (a876, a877)).bind fun p875 => m_u_law_inverse p875.1 p875.2.1).bind fun (t881 : Int) => Res.need (CMulX t880 t881) (Res.ok (t880 * t881))).bind fun (t882 : Int) => ((Res.ok prime_)).bind fun (t883 : Int) => Res.need (0 < t883) (Res.ok (t882 % t883))).bind fun (slope_ : Int) =>   (m_u_law_add_k4 prime_ x1_ y1_ x2_) slope_))) u804.a u804.b) u803.a u803.b))
theorem ok_u_law_add {P : Program} {w : World} {K : PySem.W.Frag} {mg : Str → Option Value} {base : Heap} (T : Facts K mg) {fd : FuncData} (F : FnP K "_law_add" "_law_add" s_u_law_add (He.ga K "_law_add") fd) :
    FnOk P w K mg base (L2.CX P w) 3 (He.ga K "_law_add") fd ["prime", "a", "first", "second"] (spM K (fun (p : Int × Int × (Option (T2 Int Int)) × (Option (T2 Int Int)) × Unit) => m_u_law_add p.1 p.2.1 p.2.2.1 p.2.2.2.1)) := by
  obtain ⟨fd_u_law_inverse, F_u_law_inverse⟩ := T.d_u_law_inverse
  have G_u_law_inverse := ok_u_law_inverse (P := P) (w := w) (base := base) T F_u_law_inverse
  have b_u_law_inverse : Binds K fd_u_law_inverse ["a", "prime"] [] := F_u_law_inverse.bindsN fun _ _ _ _ _ _ us hl => match us, hl with | [_, _], _ => rfl
  refine fn_ok F sc_u_law_add (fun y => rfl) (fun cdv A outer s H E hr => ?_)
  refine ⟨_, (pss_cons (ps_if (pt_cmpR op_isN (pv 2) pe_non (nomark _)) (pss_one (ps_ret (pv 3))) pss_nil) (pss_cons (ps_if (pt_cmpR op_isN (pv 3) pe_non (nomark _)) (pss_one (ps_ret (pv 2))) pss_nil) (pss_cons (ps_asg (pv 2) (pg_tup rfl (pgs_cons (pg_name (i := 4) sc_u_law_add.nd rfl (Or.inl rfl)) (pgs_cons (pg_name (i := 5) sc_u_law_add.nd rfl (Or.inl rfl)) pgs_nil)))) (pss_cons (ps_asg (pv 3) (pg_tup rfl (pgs_cons (pg_name (i := 6) sc_u_law_add.nd rfl (Or.inl rfl)) (pgs_cons (pg_name (i := 7) sc_u_law_add.nd rfl (Or.inl rfl)) pgs_nil)))) (pss_cons (ps_if (PW.pt (pw_and (pt_cmpR op_eq (pv 4) (pv 6) (nomark _)) (pw_and1 (pt_cmpR op_eq (pe_op op_mod (pe_op op_add (pv 5) (pv 7)) (pv 0)) pe_int (nomark _))))) (pss_one (ps_ret pe_non)) pss_nil) (pss_cons (ps_if (pt_cmpR op_eq (pv 4) (pv 6) (nomark _)) (pss_one (ps_set (i := 8) sc_u_law_add.nd rfl (Or.inl rfl) (pe_op op_mod (pe_op op_mulX (pe_op op_add (pe_op op_mulX (pe_op op_mul pe_int (pv 4)) (pv 4)) (pv 1)) (pe_callS G_u_law_inverse (hr.mono (by decide)) rfl T.g_u_law_inverse F_u_law_inverse.kp b_u_law_inverse (fun σ => passAt (takes_of rfl rfl rfl rfl) σ) (pa_cons (pe_op op_mul pe_int (pv 5)) (pa_cons (pv 0) pa_nil)))) (pv 0)))) (pss_one (ps_set (i := 8) sc_u_law_add.nd rfl (Or.inl rfl) (pe_op op_mod (pe_op op_mulX (pe_op op_sub (pv 7) (pv 5)) (pe_callS G_u_law_inverse (hr.mono (by decide)) rfl T.g_u_law_inverse F_u_law_inverse.kp b_u_law_inverse (fun σ => passAt (takes_of rfl rfl rfl rfl) σ) (pa_cons (pe_op op_sub (pv 6) (pv 4)) (pa_cons (pv 0) pa_nil)))) (pv 0))))) (pss_cons (ps_set (i := 9) sc_u_law_add.nd rfl (Or.inl rfl) (pe_op op_mod (pe_op op_sub (pe_op op_sub (pe_op op_mulX (pv 8) (pv 8)) (pv 4)) (pv 6)) (pv 0))) (pss_one (ps_ret (pe_tup (pa_cons (pv 9) (pa_cons (pe_op op_mod (pe_op op_sub (pe_op op_mulX (pv 8) (pe_op op_sub (pv 4) (pv 9))) (pv 5)) (pv 0)) pa_nil)))))))))))), ?_⟩
  rintro ⟨prime_, a_, first_, second_, ⟨⟩⟩ F0 H0 Q KP L
  show Blk K F0 H0 KP _ [some (.im (toD prime_)), some (.im (toD a_)), some (.im (toD first_)), some (.im (toD second_)), none, none, none, none, none, none] (m_u_law_add prime_ a_ first_ second_)
  unfold m_u_law_add
  have ht_ := ((et_test (ev_op opx_isN mild_ok (ev_var (i := 2) (x := first_) rfl) ev_non)) : EvT K (W0 E) [some (.im (toD prime_)), some (.im (toD a_)), some (.im (toD first_)), some (.im (toD second_)), none, none, none, none, none, none] _ _)
  refine blk_seq (blk_if2 L trivial ht_ ?_ ?_)
  · have hr_ := ((ev_var (i := 3) (x := second_) rfl) : EvX K (W0 E) [some (.im (toD prime_)), some (.im (toD a_)), some (.im (toD first_)), some (.im (toD second_)), none, none, none, none, none, none] _ _)
    exact blk_ret L trivial hr_
  · refine blk_nil ?_
    try refine Blk.nx ?_
    have ht_ := ((et_test (ev_op opx_isN mild_ok (ev_var (i := 3) (x := second_) rfl) ev_non)) : EvT K (W0 E) [some (.im (toD prime_)), some (.im (toD a_)), some (.im (toD first_)), some (.im (toD second_)), none, none, none, none, none, none] _ _)
    refine blk_seq (blk_if2 L trivial ht_ ?_ ?_)
    · have hr_ := ((ev_var (i := 2) (x := first_) rfl) : EvX K (W0 E) [some (.im (toD prime_)), some (.im (toD a_)), some (.im (toD first_)), some (.im (toD second_)), none, none, none, none, none, none] _ _)
      exact blk_ret L trivial hr_
    · refine blk_nil ?_
      try refine Blk.nx ?_
      have hs_ := ((ev_castG (f := optGet) optGet_ok optGet_x (ev_var (i := 2) (x := first_) rfl)) : EvX K (W0 E) [some (.im (toD prime_)), some (.im (toD a_)), some (.im (toD first_)), some (.im (toD second_)), none, none, none, none, none, none] _ _)
      refine blk_seq (blk_asg L trivial hs_ (fun _ => (gx_tup (gxs_cons gx_name (gxs_cons gx_name gxs_nil)) rfl)) fun u803 => ?_)
      show Blk _ _ _ _ _ [some (.im (toD prime_)), some (.im (toD a_)), some (.im (toD first_)), some (.im (toD second_)), some (.im (toD u803.a)), some (.im (toD u803.b)), none, none, none, none] ((fun (x1_ : Int) (y1_ : Int) => _) u803.a u803.b)
      generalize u803.a = x1_
      generalize u803.b = y1_
      show Blk _ _ _ _ _ [some (.im (toD prime_)), some (.im (toD a_)), some (.im (toD first_)), some (.im (toD second_)), some (.im (toD x1_)), some (.im (toD y1_)), none, none, none, none] _
      try refine Blk.nx ?_
      have hs_ := ((ev_castG (f := optGet) optGet_ok optGet_x (ev_var (i := 3) (x := second_) rfl)) : EvX K (W0 E) [some (.im (toD prime_)), some (.im (toD a_)), some (.im (toD first_)), some (.im (toD second_)), some (.im (toD x1_)), some (.im (toD y1_)), none, none, none, none] _ _)
      refine blk_seq (blk_asg L trivial hs_ (fun _ => (gx_tup (gxs_cons gx_name (gxs_cons gx_name gxs_nil)) rfl)) fun u804 => ?_)
      show Blk _ _ _ _ _ [some (.im (toD prime_)), some (.im (toD a_)), some (.im (toD first_)), some (.im (toD second_)), some (.im (toD x1_)), some (.im (toD y1_)), some (.im (toD u804.a)), some (.im (toD u804.b)), none, none] ((fun (x2_ : Int) (y2_ : Int) => _) u804.a u804.b)
      generalize u804.a = x2_
      generalize u804.b = y2_
      show Blk _ _ _ _ _ [some (.im (toD prime_)), some (.im (toD a_)), some (.im (toD first_)), some (.im (toD second_)), some (.im (toD x1_)), some (.im (toD y1_)), some (.im (toD x2_)), some (.im (toD y2_)), none, none] _
      try refine Blk.nx ?_
      have ht_ := ((et_and (et_test (ev_op opx_eqI mild_ok (ev_var (i := 4) (x := x1_) rfl) (ev_var (i := 6) (x := x2_) rfl))) (et_test (ev_op opx_eqI mild_ok (ev_op (opx_I (C := (fun _ j => 0 < j)) (g := fun i j => i % j)) mild_need (ev_op (opx_I0 (g := fun i j => i + j)) mild_ok (ev_var (i := 5) (x := y1_) rfl) (ev_var (i := 7) (x := y2_) rfl)) (ev_var (i := 0) (x := prime_) rfl)) (ev_int (i := 0))))) : EvT K (W0 E) [some (.im (toD prime_)), some (.im (toD a_)), some (.im (toD first_)), some (.im (toD second_)), some (.im (toD x1_)), some (.im (toD y1_)), some (.im (toD x2_)), some (.im (toD y2_)), none, none] _ _)
      refine blk_seq (blk_if2 L trivial ht_ ?_ ?_)
      · have hr_ := ((ev_noneO (α := (T2 Int Int))) : EvX K (W0 E) [some (.im (toD prime_)), some (.im (toD a_)), some (.im (toD first_)), some (.im (toD second_)), some (.im (toD x1_)), some (.im (toD y1_)), some (.im (toD x2_)), some (.im (toD y2_)), none, none] _ _)
        exact blk_ret L trivial hr_
      · refine blk_nil ?_
        try refine Blk.nx ?_
        have ht_ := ((et_test (ev_op opx_eqI mild_ok (ev_var (i := 4) (x := x1_) rfl) (ev_var (i := 6) (x := x2_) rfl))) : EvT K (W0 E) [some (.im (toD prime_)), some (.im (toD a_)), some (.im (toD first_)), some (.im (toD second_)), some (.im (toD x1_)), some (.im (toD y1_)), some (.im (toD x2_)), some (.im (toD y2_)), none, none] _ _)
        refine blk_seq (blk_ifj (S := Int) (fun slope_ => [some (.im (toD prime_)), some (.im (toD a_)), some (.im (toD first_)), some (.im (toD second_)), some (.im (toD x1_)), some (.im (toD y1_)), some (.im (toD x2_)), some (.im (toD y2_)), some (.im (toD slope_)), none]) (m_u_law_add_k4 prime_ x1_ y1_ x2_) L trivial ht_ ?_ ?_ ?_)
        · intro slope_
          show Blk _ _ _ _ _ [some (.im (toD prime_)), some (.im (toD a_)), some (.im (toD first_)), some (.im (toD second_)), some (.im (toD x1_)), some (.im (toD y1_)), some (.im (toD x2_)), some (.im (toD y2_)), some (.im (toD slope_)), none] ((m_u_law_add_k4 prime_ x1_ y1_ x2_) slope_)
          unfold m_u_law_add_k4
          try refine Blk.nx ?_
          have hs_ := ((ev_op (opx_I (C := (fun _ j => 0 < j)) (g := fun i j => i % j)) mild_need (ev_op (opx_I0 (g := fun i j => i - j)) mild_ok (ev_op (opx_I0 (g := fun i j => i - j)) mild_ok (ev_op (opx_I (C := CMulX) (g := fun i j => i * j)) mild_need (ev_var (i := 8) (x := slope_) rfl) (ev_var (i := 8) (x := slope_) rfl)) (ev_var (i := 4) (x := x1_) rfl)) (ev_var (i := 6) (x := x2_) rfl)) (ev_var (i := 0) (x := prime_) rfl)) : EvX K (W0 E) [some (.im (toD prime_)), some (.im (toD a_)), some (.im (toD first_)), some (.im (toD second_)), some (.im (toD x1_)), some (.im (toD y1_)), some (.im (toD x2_)), some (.im (toD y2_)), some (.im (toD slope_)), none] _ _)
          refine blk_seq (blk_set (i := 9) L trivial hs_ fun x3_ => ?_)
          show Blk _ _ _ _ _ [some (.im (toD prime_)), some (.im (toD a_)), some (.im (toD first_)), some (.im (toD second_)), some (.im (toD x1_)), some (.im (toD y1_)), some (.im (toD x2_)), some (.im (toD y2_)), some (.im (toD slope_)), some (.im (toD x3_))] _
          try refine Blk.nx ?_
          have hr_ := ((ev_as (ev_tup (f := (fun y => T2.mk y.1 y.2.1)) (ea_cons (ev_var (i := 9) (x := x3_) rfl) (ea_cons (ev_op (opx_I (C := (fun _ j => 0 < j)) (g := fun i j => i % j)) mild_need (ev_op (opx_I0 (g := fun i j => i - j)) mild_ok (ev_op (opx_I (C := CMulX) (g := fun i j => i * j)) mild_need (ev_var (i := 8) (x := slope_) rfl) (ev_op (opx_I0 (g := fun i j => i - j)) mild_ok (ev_var (i := 4) (x := x1_) rfl) (ev_var (i := 9) (x := x3_) rfl))) (ev_var (i := 5) (x := y1_) rfl)) (ev_var (i := 0) (x := prime_) rfl)) ea_nil)) (fun _ => rfl) (fun _ => by show 2 ≤ 100000; decide)) some (fun _ => rfl) rfl) : EvX K (W0 E) [some (.im (toD prime_)), some (.im (toD a_)), some (.im (toD first_)), some (.im (toD second_)), some (.im (toD x1_)), some (.im (toD y1_)), some (.im (toD x2_)), some (.im (toD y2_)), some (.im (toD slope_)), some (.im (toD x3_))] _ _)
          exact blk_ret L trivial hr_
        · intro hk4
          have hs_ := ((ev_op (opx_I (C := (fun _ j => 0 < j)) (g := fun i j => i % j)) mild_need (ev_op (opx_I (C := CMulX) (g := fun i j => i * j)) mild_need (ev_op (opx_I0 (g := fun i j => i + j)) mild_ok (ev_op (opx_I (C := CMulX) (g := fun i j => i * j)) mild_need (ev_opI (C := CMul) (g := fun i j => i * j) (fun x y h _ => by cases h; exact .inl (by decide)) (ev_int (i := 3)) (ev_var (i := 4) (x := x1_) rfl)) (ev_var (i := 4) (x := x1_) rfl)) (ev_var (i := 1) (x := a_) rfl)) (ev_call (f := (fun (p : Int × Int × Unit) => m_u_law_inverse p.1 p.2.1)) (ea_cons (ev_opI (C := CMul) (g := fun i j => i * j) (fun x y h _ => by cases h; exact .inl (by decide)) (ev_int (i := 2)) (ev_var (i := 5) (x := y1_) rfl)) (ea_cons (ev_var (i := 0) (x := prime_) rfl) ea_nil)))) (ev_var (i := 0) (x := prime_) rfl)) : EvX K (W0 E) [some (.im (toD prime_)), some (.im (toD a_)), some (.im (toD first_)), some (.im (toD second_)), some (.im (toD x1_)), some (.im (toD y1_)), some (.im (toD x2_)), some (.im (toD y2_)), none, none] _ _)
          refine blk_set (i := 8) L trivial hs_ fun slope_ => ?_
          show Blk _ _ _ _ _ [some (.im (toD prime_)), some (.im (toD a_)), some (.im (toD first_)), some (.im (toD second_)), some (.im (toD x1_)), some (.im (toD y1_)), some (.im (toD x2_)), some (.im (toD y2_)), some (.im (toD slope_)), none] _
          try refine Blk.nx ?_
          exact (hk4 slope_).weak (.same (.same (.same (.same (.same (.same (.same (.same (.same (.same .nil))))))))))
        · intro hk4
          have hs_ := ((ev_op (opx_I (C := (fun _ j => 0 < j)) (g := fun i j => i % j)) mild_need (ev_op (opx_I (C := CMulX) (g := fun i j => i * j)) mild_need (ev_op (opx_I0 (g := fun i j => i - j)) mild_ok (ev_var (i := 7) (x := y2_) rfl) (ev_var (i := 5) (x := y1_) rfl)) (ev_call (f := (fun (p : Int × Int × Unit) => m_u_law_inverse p.1 p.2.1)) (ea_cons (ev_op (opx_I0 (g := fun i j => i - j)) mild_ok (ev_var (i := 6) (x := x2_) rfl) (ev_var (i := 4) (x := x1_) rfl)) (ea_cons (ev_var (i := 0) (x := prime_) rfl) ea_nil)))) (ev_var (i := 0) (x := prime_) rfl)) : EvX K (W0 E) [some (.im (toD prime_)), some (.im (toD a_)), some (.im (toD first_)), some (.im (toD second_)), some (.im (toD x1_)), some (.im (toD y1_)), some (.im (toD x2_)), some (.im (toD y2_)), none, none] _ _)
          refine blk_set (i := 8) L trivial hs_ fun slope_ => ?_
          show Blk _ _ _ _ _ [some (.im (toD prime_)), some (.im (toD a_)), some (.im (toD first_)), some (.im (toD second_)), some (.im (toD x1_)), some (.im (toD y1_)), some (.im (toD x2_)), some (.im (toD y2_)), some (.im (toD slope_)), none] _
          try refine Blk.nx ?_
          exact (hk4 slope_).weak (.same (.same (.same (.same (.same (.same (.same (.same (.same (.same .nil))))))))))
noncomputable def m_u_law_singular (prime_ : Int) (a_ : Int) (b_ : Int) : Res Bool :=
  (((((((Res.ok (4 : Int))).bind fun (t884 : Int) => ((Res.ok a_)).bind fun (t885 : Int) => Res.ok (t884 * t885)).bind fun (t886 : Int) => ((Res.ok a_)).bind fun (t887 : Int) => Res.need (CMulX t886 t887) (Res.ok (t886 * t887))).bind fun (t888 : Int) => ((Res.ok a_)).bind fun (t889 : Int) => Res.need (CMulX t888 t889) (Res.ok (t888 * t889))).bind fun (t894 : Int) => ((((Res.ok (27 : Int))).bind fun (t890 : Int) => ((Res.ok b_)).bind fun (t891 : Int) => Res.ok (t890 * t891)).bind fun (t892 : Int) => ((Res.ok b_)).bind fun (t893 : Int) => Res.need (CMulX t892 t893) (Res.ok (t892 * t893))).bind fun (t895 : Int) => Res.ok (t894 + t895)).bind fun (t896 : Int) => ((Res.ok prime_)).bind fun (t897 : Int) => Res.need (0 < t897) (Res.ok (t896 % t897))).bind fun (t898 : Int) => ((Res.ok (0 : Int))).bind fun (t899 : Int) => Res.ok (decide (t898 = t899))
theorem ok_u_law_singular {P : Program} {w : World} {K : PySem.W.Frag} {mg : Str → Option Value} {base : Heap} (T : Facts K mg) {fd : FuncData} (F : FnP K "_law_singular" "_law_singular" s_u_law_singular (He.ga K "_law_singular") fd) :
    FnOk P w K mg base (L2.CX P w) 1 (He.ga K "_law_singular") fd ["prime", "a", "b"] (spM K (fun (p : Int × Int × Int × Unit) => m_u_law_singular p.1 p.2.1 p.2.2.1)) := by
  refine fn_ok F sc_u_law_singular (fun y => rfl) (fun cdv A outer s H E hr => ?_)
  refine ⟨_, (pss_one (ps_ret (pe_cmpR op_eq (pe_op op_mod (pe_op op_add (pe_op op_mulX (pe_op op_mulX (pe_op op_mul pe_int (pv 1)) (pv 1)) (pv 1)) (pe_op op_mulX (pe_op op_mul pe_int (pv 2)) (pv 2))) (pv 0)) pe_int (nomark _)))), ?_⟩
  rintro ⟨prime_, a_, b_, ⟨⟩⟩ F0 H0 Q KP L
  show Blk K F0 H0 KP _ [some (.im (toD prime_)), some (.im (toD a_)), some (.im (toD b_))] (m_u_law_singular prime_ a_ b_)
  unfold m_u_law_singular
  have hr_ := ((ev_op opx_eqI mild_ok (ev_op (opx_I (C := (fun _ j => 0 < j)) (g := fun i j => i % j)) mild_need (ev_op (opx_I0 (g := fun i j => i + j)) mild_ok (ev_op (opx_I (C := CMulX) (g := fun i j => i * j)) mild_need (ev_op (opx_I (C := CMulX) (g := fun i j => i * j)) mild_need (ev_opI (C := CMul) (g := fun i j => i * j) (fun x y h _ => by cases h; exact .inl (by decide)) (ev_int (i := 4)) (ev_var (i := 1) (x := a_) rfl)) (ev_var (i := 1) (x := a_) rfl)) (ev_var (i := 1) (x := a_) rfl)) (ev_op (opx_I (C := CMulX) (g := fun i j => i * j)) mild_need (ev_opI (C := CMul) (g := fun i j => i * j) (fun x y h _ => by cases h; exact .inl (by decide)) (ev_int (i := 27)) (ev_var (i := 2) (x := b_) rfl)) (ev_var (i := 2) (x := b_) rfl))) (ev_var (i := 0) (x := prime_) rfl)) (ev_int (i := 0))) : EvX K (W0 E) [some (.im (toD prime_)), some (.im (toD a_)), some (.im (toD b_))] _ _)
  exact blk_ret L trivial hr_
noncomputable def m_u_law_triple (point_ : (Option (T2 Int Int))) (scale_ : Int) (prime_ : Int) (cell_ : Int) : Res (T3 Int Int Int) :=
  (((Res.ok point_)).bind fun (t900 : (Option (T2 Int Int))) => ((Res.ok ())).bind fun (t901 : Unit) => Res.ok (toD t900).isNon).bind fun b => cond b   ((((((Res.ok cell_)).bind fun a903 => (((Res.ok prime_)).bind fun a905 => (Res.ok ()).bind fun a906 => Res.ok (a905, a906)).bind fun a904 => Res.ok (a903, a904)).bind fun p902 => m_u_law_residue p902.1 p902.2.1).bind fun a915 => ((((((Res.ok cell_)).bind fun (t907 : Int) => ((Res.ok (7 : Int))).bind fun (t908 : Int) => Res.ok (t907 / t908)).bind fun a910 => (((Res.ok prime_)).bind fun a912 => (Res.ok ()).bind fun a913 => Res.ok (a912, a913)).bind fun a911 => Res.ok (a910, a911)).bind fun p909 => m_u_law_residue p909.1 p909.2.1).bind fun a917 => (((Res.ok (0 : Int))).bind fun a919 => (Res.ok ()).bind fun a920 => Res.ok (a919, a920)).bind fun a918 => Res.ok (a917, a918)).bind fun a916 => Res.ok (a915, a916)).bind fun p914 => Res.ok (T3.mk p914.1 p914.2.1 p914.2.2.1))   (((((((((Res.ok point_)).bind optGet).bind fun (t921 : (T2 Int Int)) => Res.ok t921.a).bind fun (t922 : Int) => ((Res.ok scale_)).bind fun (t923 : Int) => Res.need (CMulX t922 t923) (Res.ok (t922 * t923))).bind fun (t924 : Int) => ((Res.ok scale_)).bind fun (t925 : Int) => Res.need (CMulX t924 t925) (Res.ok (t924 * t925))).bind fun (t926 : Int) => ((Res.ok prime_)).bind fun (t927 : Int) => Res.need (0 < t927) (Res.ok (t926 % t927))).bind fun a938 => (((((((((Res.ok point_)).bind optGet).bind fun (t928 : (T2 Int Int)) => Res.ok t928.b).bind fun (t929 : Int) => ((Res.ok scale_)).bind fun (t930 : Int) => Res.need (CMulX t929 t930) (Res.ok (t929 * t930))).bind fun (t931 : Int) => ((Res.ok scale_)).bind fun (t932 : Int) => Res.need (CMulX t931 t932) (Res.ok (t931 * t932))).bind fun (t933 : Int) => ((Res.ok scale_)).bind fun (t934 : Int) => Res.need (CMulX t933 t934) (Res.ok (t933 * t934))).bind fun (t935 : Int) => ((Res.ok prime_)).bind fun (t936 : Int) => Res.need (0 < t936) (Res.ok (t935 % t936))).bind fun a940 => (((Res.ok scale_)).bind fun a942 => (Res.ok ()).bind fun a943 => Res.ok (a942, a943)).bind fun a941 => Res.ok (a940, a941)).bind fun a939 => Res.ok (a938, a939)).bind fun p937 => Res.ok (T3.mk p937.1 p937.2.1 p937.2.2.1))
theorem ok_u_law_triple {P : Program} {w : World} {K : PySem.W.Frag} {mg : Str → Option Value} {base : Heap} (T : Facts K mg) {fd : FuncData} (F : FnP K "_law_triple" "_law_triple" s_u_law_triple (He.ga K "_law_triple") fd) :
    FnOk P w K mg base (L2.CX P w) 2 (He.ga K "_law_triple") fd ["point", "scale", "prime", "cell"] (spM K (fun (p : (Option (T2 Int Int)) × Int × Int × Int × Unit) => m_u_law_triple p.1 p.2.1 p.2.2.1 p.2.2.2.1)) := by
  obtain ⟨fd_u_law_residue, F_u_law_residue⟩ := T.d_u_law_residue
  have G_u_law_residue := ok_u_law_residue (P := P) (w := w) (base := base) T F_u_law_residue
  have b_u_law_residue : Binds K fd_u_law_residue ["cell", "prime"] [] := F_u_law_residue.bindsN fun _ _ _ _ _ _ us hl => match us, hl with | [_, _], _ => rfl
  refine fn_ok F sc_u_law_triple (fun y => rfl) (fun cdv A outer s H E hr => ?_)
  refine ⟨_, (pss_cons (ps_if (pt_cmpR op_isN (pv 0) pe_non (nomark _)) (pss_one (ps_ret (pe_tup (pa_cons (pe_callS G_u_law_residue (hr.mono (by decide)) rfl T.g_u_law_residue F_u_law_residue.kp b_u_law_residue (fun σ => passAt (takes_of rfl rfl rfl rfl) σ) (pa_cons (pv 3) (pa_cons (pv 2) pa_nil))) (pa_cons (pe_callS G_u_law_residue (hr.mono (by decide)) rfl T.g_u_law_residue F_u_law_residue.kp b_u_law_residue (fun σ => passAt (takes_of rfl rfl rfl rfl) σ) (pa_cons (pe_op op_fdiv (pv 3) pe_int) (pa_cons (pv 2) pa_nil))) (pa_cons pe_int pa_nil)))))) pss_nil) (pss_one (ps_ret (pe_tup (pa_cons (pe_op op_mod (pe_op op_mulX (pe_op op_mulX (pe_ix (cr_ixT rfl) (pv 0) pe_int (fun _ _ => rfl)) (pv 1)) (pv 1)) (pv 2)) (pa_cons (pe_op op_mod (pe_op op_mulX (pe_op op_mulX (pe_op op_mulX (pe_ix (cr_ixT rfl) (pv 0) pe_int (fun _ _ => rfl)) (pv 1)) (pv 1)) (pv 1)) (pv 2)) (pa_cons (pv 1) pa_nil))))))), ?_⟩
  rintro ⟨point_, scale_, prime_, cell_, ⟨⟩⟩ F0 H0 Q KP L
  show Blk K F0 H0 KP _ [some (.im (toD point_)), some (.im (toD scale_)), some (.im (toD prime_)), some (.im (toD cell_))] (m_u_law_triple point_ scale_ prime_ cell_)
  unfold m_u_law_triple
  have ht_ := ((et_test (ev_op opx_isN mild_ok (ev_var (i := 0) (x := point_) rfl) ev_non)) : EvT K (W0 E) [some (.im (toD point_)), some (.im (toD scale_)), some (.im (toD prime_)), some (.im (toD cell_))] _ _)
  refine blk_seq (blk_if2 L trivial ht_ ?_ ?_)
  · have hr_ := ((ev_tup (f := (fun y => T3.mk y.1 y.2.1 y.2.2.1)) (ea_cons (ev_call (f := (fun (p : Int × Int × Unit) => m_u_law_residue p.1 p.2.1)) (ea_cons (ev_var (i := 3) (x := cell_) rfl) (ea_cons (ev_var (i := 2) (x := prime_) rfl) ea_nil))) (ea_cons (ev_call (f := (fun (p : Int × Int × Unit) => m_u_law_residue p.1 p.2.1)) (ea_cons (ev_opI (C := CDiv) (g := fun i j => i / j) (fun x y _ h => by cases h; exact ⟨by decide, by decide⟩) (ev_var (i := 3) (x := cell_) rfl) (ev_int (i := 7))) (ea_cons (ev_var (i := 2) (x := prime_) rfl) ea_nil))) (ea_cons (ev_int (i := 0)) ea_nil))) (fun _ => rfl) (fun _ => by show 3 ≤ 100000; decide)) : EvX K (W0 E) [some (.im (toD point_)), some (.im (toD scale_)), some (.im (toD prime_)), some (.im (toD cell_))] _ _)
    exact blk_ret L trivial hr_
  · refine blk_nil ?_
    try refine Blk.nx ?_
    have hr_ := ((ev_tup (f := (fun y => T3.mk y.1 y.2.1 y.2.2.1)) (ea_cons (ev_op (opx_I (C := (fun _ j => 0 < j)) (g := fun i j => i % j)) mild_need (ev_op (opx_I (C := CMulX) (g := fun i j => i * j)) mild_need (ev_op (opx_I (C := CMulX) (g := fun i j => i * j)) mild_need (ev_ixTC (i := 0) (f := fun x => x.a) (ev_castG (f := optGet) optGet_ok optGet_x (ev_var (i := 0) (x := point_) rfl)) (fun x => ⟨_, rfl, rfl⟩)) (ev_var (i := 1) (x := scale_) rfl)) (ev_var (i := 1) (x := scale_) rfl)) (ev_var (i := 2) (x := prime_) rfl)) (ea_cons (ev_op (opx_I (C := (fun _ j => 0 < j)) (g := fun i j => i % j)) mild_need (ev_op (opx_I (C := CMulX) (g := fun i j => i * j)) mild_need (ev_op (opx_I (C := CMulX) (g := fun i j => i * j)) mild_need (ev_op (opx_I (C := CMulX) (g := fun i j => i * j)) mild_need (ev_ixTC (i := 1) (f := fun x => x.b) (ev_castG (f := optGet) optGet_ok optGet_x (ev_var (i := 0) (x := point_) rfl)) (fun x => ⟨_, rfl, rfl⟩)) (ev_var (i := 1) (x := scale_) rfl)) (ev_var (i := 1) (x := scale_) rfl)) (ev_var (i := 1) (x := scale_) rfl)) (ev_var (i := 2) (x := prime_) rfl)) (ea_cons (ev_var (i := 1) (x := scale_) rfl) ea_nil))) (fun _ => rfl) (fun _ => by show 3 ≤ 100000; decide)) : EvX K (W0 E) [some (.im (toD point_)), some (.im (toD scale_)), some (.im (toD prime_)), some (.im (toD cell_))] _ _)
    exact blk_ret L trivial hr_
noncomputable def m_u_law_double (prime_ : Int) (a_ : Int) (triple_ : (T3 Int Int Int)) : Res (T3 Int Int Int) :=
  ((Res.ok triple_)).bind fun (u944 : (T3 Int Int Int)) =>   (fun (x_ : Int) (y_ : Int) (z_ : Int) => ((((Res.ok y_)).bind fun (t945 : Int) => ((Res.ok (0 : Int))).bind fun (t946 : Int) => Res.ok (decide (t945 = t946))).bind fun b949 => cond b949 (Res.ok true) (((Res.ok z_)).bind fun (t947 : Int) => ((Res.ok (0 : Int))).bind fun (t948 : Int) => Res.ok (decide (t947 = t948)))).bind fun b => cond b   ((((Res.ok (1 : Int))).bind fun a951 => (((Res.ok (1 : Int))).bind fun a953 => (((Res.ok (0 : Int))).bind fun a955 => (Res.ok ()).bind fun a956 => Res.ok (a955, a956)).bind fun a954 => Res.ok (a953, a954)).bind fun a952 => Res.ok (a951, a952)).bind fun p950 => Res.ok (T3.mk p950.1 p950.2.1 p950.2.2.1))   ((((((Res.ok (4 : Int))).bind fun (t957 : Int) => ((Res.ok x_)).bind fun (t958 : Int) => Res.ok (t957 * t958)).bind fun (t959 : Int) => ((Res.ok y_)).bind fun (t960 : Int) => Res.need (CMulX t959 t960) (Res.ok (t959 * t960))).bind fun (t961 : Int) => ((Res.ok y_)).bind fun (t962 : Int) => Res.need (CMulX t961 t962) (Res.ok (t961 * t962))).bind fun (s_ : Int) =>   (((((Res.ok (3 : Int))).bind fun (t963 : Int) => ((Res.ok x_)).bind fun (t964 : Int) => Res.ok (t963 * t964)).bind fun (t965 : Int) => ((Res.ok x_)).bind fun (t966 : Int) => Res.need (CMulX t965 t966) (Res.ok (t965 * t966))).bind fun (t975 : Int) => ((((((Res.ok a_)).bind fun (t967 : Int) => ((Res.ok z_)).bind fun (t968 : Int) => Res.need (CMulX t967 t968) (Res.ok (t967 * t968))).bind fun (t969 : Int) => ((Res.ok z_)).bind fun (t970 : Int) => Res.need (CMulX t969 t970) (Res.ok (t969 * t970))).bind fun (t971 : Int) => ((Res.ok z_)).bind fun (t972 : Int) => Res.need (CMulX t971 t972) (Res.ok (t971 * t972))).bind fun (t973 : Int) => ((Res.ok z_)).bind fun (t974 : Int) => Res.need (CMulX t973 t974) (Res.ok (t973 * t974))).bind fun (t976 : Int) => Res.ok (t975 + t976)).bind fun (m_ : Int) =>   ((((Res.ok m_)).bind fun (t977 : Int) => ((Res.ok m_)).bind fun (t978 : Int) => Res.need (CMulX t977 t978) (Res.ok (t977 * t978))).bind fun (t981 : Int) => (((Res.ok (2 : Int))).bind fun (t979 : Int) => ((Res.ok s_)).bind fun (t980 : Int) => Res.ok (t979 * t980)).bind fun (t982 : Int) => Res.ok (t981 - t982)).bind fun (x3_ : Int) =>   ((((Res.ok x3_)).bind fun (t983 : Int) => ((Res.ok prime_)).bind fun (t984 : Int) => Res.need (0 < t984) (Res.ok (t983 % t984))).bind fun a1008 => ((((((Res.ok m_)).bind fun (t987 : Int) => (((Res.ok s_)).bind fun (t985 : Int) => ((Res.ok x3_)).bind fun (t986 : Int) => Res.ok (t985 - t986)).bind fun (t988 : Int) => Res.need (CMulX t987 t988) (Res.ok (t987 * t988))).bind fun (t997 : Int) => ((((((Res.ok (8 : Int))).bind fun (t989 : Int) => ((Res.ok y_)).bind fun (t990 : Int) => Res.ok (t989 * t990)).bind fun (t991 : Int) => ((Res.ok y_)).bind fun (t992 : Int) => Res.need (CMulX t991 t992) (Res.ok (t991 * t992))).bind fun (t993 : Int) => ((Res.ok y_)).bind fun (t994 : Int) => Res.need (CMulX t993 t994) (Res.ok (t993 * t994))).bind fun (t995 : Int) => ((Res.ok y_)).bind fun (t996 : Int) => Res.need (CMulX t995 t996) (Res.ok (t995 * t996))).bind fun (t998 : Int) => Res.ok (t997 - t998)).bind fun (t999 : Int) => ((Res.ok prime_)).bind fun (t1000 : Int) => Res.need (0 < t1000) (Res.ok (t999 % t1000))).bind fun a1010 => ((((((Res.ok (2 : Int))).bind fun (t1001 : Int) => ((Res.ok y_)).bind fun (t1002 : Int) => Res.ok (t1001 * t1002)).bind fun (t1003 : Int) => ((Res.ok z_)).bind fun (t1004 : Int) => Res.need (CMulX t1003 t1004) (Res.ok (t1003 * t1004))).bind fun (t1005 : Int) => ((Res.ok prime_)).bind fun (t1006 : Int) => Res.need (0 < t1006) (Res.ok (t1005 % t1006))).bind fun a1012 => (Res.ok ()).bind fun a1013 => Res.ok (a1012, a1013)).bind fun a1011 => Res.ok (a1010, a1011)).bind fun a1009 => Res.ok (a1008, a1009)).bind fun p1007 => Res.ok (T3.mk p1007.1 p1007.2.1 p1007.2.2.1))) u944.a u944.b u944.c
theorem ok_u_law_double {P : Program} {w : World} {K : PySem.W.Frag} {mg : Str → Option Value} {base : Heap} (T : Facts K mg) {fd : FuncData} (F : FnP K "_law_double" "_law_double" s_u_law_double (He.ga K "_law_double") fd) :
    FnOk P w K mg base (L2.CX P w) 1 (He.ga K "_law_double") fd ["prime", "a", "triple"] (spM K (fun (p : Int × Int × (T3 Int Int Int) × Unit) => m_u_law_double p.1 p.2.1 p.2.2.1)) := by
  refine fn_ok F sc_u_law_double (fun y => rfl) (fun cdv A outer s H E hr => ?_)
  refine ⟨_, (pss_cons (ps_asg (pv 2) (pg_tup rfl (pgs_cons (pg_name (i := 3) sc_u_law_double.nd rfl (Or.inl rfl)) (pgs_cons (pg_name (i := 4) sc_u_law_double.nd rfl (Or.inl rfl)) (pgs_cons (pg_name (i := 5) sc_u_law_double.nd rfl (Or.inl rfl)) pgs_nil))))) (pss_cons (ps_if (PW.pt (pw_or (pt_cmpR op_eq (pv 4) pe_int (nomark _)) (pw_or1 (pt_cmpR op_eq (pv 5) pe_int (nomark _))))) (pss_one (ps_ret (pe_tup (pa_cons pe_int (pa_cons pe_int (pa_cons pe_int pa_nil)))))) pss_nil) (pss_cons (ps_set (i := 6) sc_u_law_double.nd rfl (Or.inl rfl) (pe_op op_mulX (pe_op op_mulX (pe_op op_mul pe_int (pv 3)) (pv 4)) (pv 4))) (pss_cons (ps_set (i := 7) sc_u_law_double.nd rfl (Or.inl rfl) (pe_op op_add (pe_op op_mulX (pe_op op_mul pe_int (pv 3)) (pv 3)) (pe_op op_mulX (pe_op op_mulX (pe_op op_mulX (pe_op op_mulX (pv 1) (pv 5)) (pv 5)) (pv 5)) (pv 5)))) (pss_cons (ps_set (i := 8) sc_u_law_double.nd rfl (Or.inl rfl) (pe_op op_sub (pe_op op_mulX (pv 7) (pv 7)) (pe_op op_mul pe_int (pv 6)))) (pss_one (ps_ret (pe_tup (pa_cons (pe_op op_mod (pv 8) (pv 0)) (pa_cons (pe_op op_mod (pe_op op_sub (pe_op op_mulX (pv 7) (pe_op op_sub (pv 6) (pv 8))) (pe_op op_mulX (pe_op op_mulX (pe_op op_mulX (pe_op op_mul pe_int (pv 4)) (pv 4)) (pv 4)) (pv 4))) (pv 0)) (pa_cons (pe_op op_mod (pe_op op_mulX (pe_op op_mul pe_int (pv 4)) (pv 5)) (pv 0)) pa_nil))))))))))), ?_⟩
  rintro ⟨prime_, a_, triple_, ⟨⟩⟩ F0 H0 Q KP L
  show Blk K F0 H0 KP _ [some (.im (toD prime_)), some (.im (toD a_)), some (.im (toD triple_)), none, none, none, none, none, none] (m_u_law_double prime_ a_ triple_)
  unfold m_u_law_double
  have hs_ := ((ev_var (i := 2) (x := triple_) rfl) : EvX K (W0 E) [some (.im (toD prime_)), some (.im (toD a_)), some (.im (toD triple_)), none, none, none, none, none, none] _ _)
  refine blk_seq (blk_asg L trivial hs_ (fun _ => (gx_tup (gxs_cons gx_name (gxs_cons gx_name (gxs_cons gx_name gxs_nil))) rfl)) fun u944 => ?_)
  show Blk _ _ _ _ _ [some (.im (toD prime_)), some (.im (toD a_)), some (.im (toD triple_)), some (.im (toD u944.a)), some (.im (toD u944.b)), some (.im (toD u944.c)), none, none, none] ((fun (x_ : Int) (y_ : Int) (z_ : Int) => _) u944.a u944.b u944.c)
  generalize u944.a = x_
  generalize u944.b = y_
  generalize u944.c = z_
  show Blk _ _ _ _ _ [some (.im (toD prime_)), some (.im (toD a_)), some (.im (toD triple_)), some (.im (toD x_)), some (.im (toD y_)), some (.im (toD z_)), none, none, none] _
  try refine Blk.nx ?_
  have ht_ := ((et_or (et_test (ev_op opx_eqI mild_ok (ev_var (i := 4) (x := y_) rfl) (ev_int (i := 0)))) (et_test (ev_op opx_eqI mild_ok (ev_var (i := 5) (x := z_) rfl) (ev_int (i := 0))))) : EvT K (W0 E) [some (.im (toD prime_)), some (.im (toD a_)), some (.im (toD triple_)), some (.im (toD x_)), some (.im (toD y_)), some (.im (toD z_)), none, none, none] _ _)
  refine blk_seq (blk_if2 L trivial ht_ ?_ ?_)
  · have hr_ := ((ev_tup (f := (fun y => T3.mk y.1 y.2.1 y.2.2.1)) (ea_cons (ev_int (i := 1)) (ea_cons (ev_int (i := 1)) (ea_cons (ev_int (i := 0)) ea_nil))) (fun _ => rfl) (fun _ => by show 3 ≤ 100000; decide)) : EvX K (W0 E) [some (.im (toD prime_)), some (.im (toD a_)), some (.im (toD triple_)), some (.im (toD x_)), some (.im (toD y_)), some (.im (toD z_)), none, none, none] _ _)
    exact blk_ret L trivial hr_
  · refine blk_nil ?_
    try refine Blk.nx ?_
    have hs_ := ((ev_op (opx_I (C := CMulX) (g := fun i j => i * j)) mild_need (ev_op (opx_I (C := CMulX) (g := fun i j => i * j)) mild_need (ev_opI (C := CMul) (g := fun i j => i * j) (fun x y h _ => by cases h; exact .inl (by decide)) (ev_int (i := 4)) (ev_var (i := 3) (x := x_) rfl)) (ev_var (i := 4) (x := y_) rfl)) (ev_var (i := 4) (x := y_) rfl)) : EvX K (W0 E) [some (.im (toD prime_)), some (.im (toD a_)), some (.im (toD triple_)), some (.im (toD x_)), some (.im (toD y_)), some (.im (toD z_)), none, none, none] _ _)
    refine blk_seq (blk_set (i := 6) L trivial hs_ fun s_ => ?_)
    show Blk _ _ _ _ _ [some (.im (toD prime_)), some (.im (toD a_)), some (.im (toD triple_)), some (.im (toD x_)), some (.im (toD y_)), some (.im (toD z_)), some (.im (toD s_)), none, none] _
    try refine Blk.nx ?_
    have hs_ := ((ev_op (opx_I0 (g := fun i j => i + j)) mild_ok (ev_op (opx_I (C := CMulX) (g := fun i j => i * j)) mild_need (ev_opI (C := CMul) (g := fun i j => i * j) (fun x y h _ => by cases h; exact .inl (by decide)) (ev_int (i := 3)) (ev_var (i := 3) (x := x_) rfl)) (ev_var (i := 3) (x := x_) rfl)) (ev_op (opx_I (C := CMulX) (g := fun i j => i * j)) mild_need (ev_op (opx_I (C := CMulX) (g := fun i j => i * j)) mild_need (ev_op (opx_I (C := CMulX) (g := fun i j => i * j)) mild_need (ev_op (opx_I (C := CMulX) (g := fun i j => i * j)) mild_need (ev_var (i := 1) (x := a_) rfl) (ev_var (i := 5) (x := z_) rfl)) (ev_var (i := 5) (x := z_) rfl)) (ev_var (i := 5) (x := z_) rfl)) (ev_var (i := 5) (x := z_) rfl))) : EvX K (W0 E) [some (.im (toD prime_)), some (.im (toD a_)), some (.im (toD triple_)), some (.im (toD x_)), some (.im (toD y_)), some (.im (toD z_)), some (.im (toD s_)), none, none] _ _)
    refine blk_seq (blk_set (i := 7) L trivial hs_ fun m_ => ?_)
    show Blk _ _ _ _ _ [some (.im (toD prime_)), some (.im (toD a_)), some (.im (toD triple_)), some (.im (toD x_)), some (.im (toD y_)), some (.im (toD z_)), some (.im (toD s_)), some (.im (toD m_)), none] _
    try refine Blk.nx ?_
    have hs_ := ((ev_op (opx_I0 (g := fun i j => i - j)) mild_ok (ev_op (opx_I (C := CMulX) (g := fun i j => i * j)) mild_need (ev_var (i := 7) (x := m_) rfl) (ev_var (i := 7) (x := m_) rfl)) (ev_opI (C := CMul) (g := fun i j => i * j) (fun x y h _ => by cases h; exact .inl (by decide)) (ev_int (i := 2)) (ev_var (i := 6) (x := s_) rfl))) : EvX K (W0 E) [some (.im (toD prime_)), some (.im (toD a_)), some (.im (toD triple_)), some (.im (toD x_)), some (.im (toD y_)), some (.im (toD z_)), some (.im (toD s_)), some (.im (toD m_)), none] _ _)
    refine blk_seq (blk_set (i := 8) L trivial hs_ fun x3_ => ?_)
    show Blk _ _ _ _ _ [some (.im (toD prime_)), some (.im (toD a_)), some (.im (toD triple_)), some (.im (toD x_)), some (.im (toD y_)), some (.im (toD z_)), some (.im (toD s_)), some (.im (toD m_)), some (.im (toD x3_))] _
    try refine Blk.nx ?_
    have hr_ := ((ev_tup (f := (fun y => T3.mk y.1 y.2.1 y.2.2.1)) (ea_cons (ev_op (opx_I (C := (fun _ j => 0 < j)) (g := fun i j => i % j)) mild_need (ev_var (i := 8) (x := x3_) rfl) (ev_var (i := 0) (x := prime_) rfl)) (ea_cons (ev_op (opx_I (C := (fun _ j => 0 < j)) (g := fun i j => i % j)) mild_need (ev_op (opx_I0 (g := fun i j => i - j)) mild_ok (ev_op (opx_I (C := CMulX) (g := fun i j => i * j)) mild_need (ev_var (i := 7) (x := m_) rfl) (ev_op (opx_I0 (g := fun i j => i - j)) mild_ok (ev_var (i := 6) (x := s_) rfl) (ev_var (i := 8) (x := x3_) rfl))) (ev_op (opx_I (C := CMulX) (g := fun i j => i * j)) mild_need (ev_op (opx_I (C := CMulX) (g := fun i j => i * j)) mild_need (ev_op (opx_I (C := CMulX) (g := fun i j => i * j)) mild_need (ev_opI (C := CMul) (g := fun i j => i * j) (fun x y h _ => by cases h; exact .inl (by decide)) (ev_int (i := 8)) (ev_var (i := 4) (x := y_) rfl)) (ev_var (i := 4) (x := y_) rfl)) (ev_var (i := 4) (x := y_) rfl)) (ev_var (i := 4) (x := y_) rfl))) (ev_var (i := 0) (x := prime_) rfl)) (ea_cons (ev_op (opx_I (C := (fun _ j => 0 < j)) (g := fun i j => i % j)) mild_need (ev_op (opx_I (C := CMulX) (g := fun i j => i * j)) mild_need (ev_opI (C := CMul) (g := fun i j => i * j) (fun x y h _ => by cases h; exact .inl (by decide)) (ev_int (i := 2)) (ev_var (i := 4) (x := y_) rfl)) (ev_var (i := 5) (x := z_) rfl)) (ev_var (i := 0) (x := prime_) rfl)) ea_nil))) (fun _ => rfl) (fun _ => by show 3 ≤ 100000; decide)) : EvX K (W0 E) [some (.im (toD prime_)), some (.im (toD a_)), some (.im (toD triple_)), some (.im (toD x_)), some (.im (toD y_)), some (.im (toD z_)), some (.im (toD s_)), some (.im (toD m_)), some (.im (toD x3_))] _ _)
    exact blk_ret L trivial hr_
noncomputable def m_u_law_sum (prime_ : Int) (a_ : Int) (first_ : (T3 Int Int Int)) (second_ : (T3 Int Int Int)) : Res (T3 Int Int Int) :=
  ((Res.ok first_)).bind fun (u1014 : (T3 Int Int Int)) =>   (fun (x1_ : Int) (y1_ : Int) (z1_ : Int) => ((Res.ok second_)).bind fun (u1015 : (T3 Int Int Int)) =>   (fun (x2_ : Int) (y2_ : Int) (z2_ : Int) => (((Res.ok z1_)).bind fun (t1016 : Int) => ((Res.ok (0 : Int))).bind fun (t1017 : Int) => Res.ok (decide (t1016 = t1017))).bind fun b => cond b   ((Res.ok second_))   ((((Res.ok z2_)).bind fun (t1018 : Int) => ((Res.ok (0 : Int))).bind fun (t1019 : Int) => Res.ok (decide (t1018 = t1019))).bind fun b => cond b   ((Res.ok first_))   (((((Res.ok x1_)).bind fun (t1020 : Int) => ((Res.ok z2_)).bind fun (t1021 : Int) => Res.need (CMulX t1020 t1021) (Res.ok (t1020 * t1021))).bind fun (t1022 : Int) => ((Res.ok z2_)).bind fun (t1023 : Int) => Res.need (CMulX t1022 t1023) (Res.ok (t1022 * t1023))).bind fun (u1_ : Int) =>   ((((Res.ok x2_)).bind fun (t1024 : Int) => ((Res.ok z1_)).bind fun (t1025 : Int) => Res.need (CMulX t1024 t1025) (Res.ok (t1024 * t1025))).bind fun (t1026 : Int) => ((Res.ok z1_)).bind fun (t1027 : Int) => Res.need (CMulX t1026 t1027) (Res.ok (t1026 * t1027))).bind fun (u2_ : Int) =>   (((((Res.ok y1_)).bind fun (t1028 : Int) => ((Res.ok z2_)).bind fun (t1029 : Int) => Res.need (CMulX t1028 t1029) (Res.ok (t1028 * t1029))).bind fun (t1030 : Int) => ((Res.ok z2_)).bind fun (t1031 : Int) => Res.need (CMulX t1030 t1031) (Res.ok (t1030 * t1031))).bind fun (t1032 : Int) => ((Res.ok z2_)).bind fun (t1033 : Int) => Res.need (CMulX t1032 t1033) (Res.ok (t1032 * t1033))).bind fun (s1_ : Int) =>   (((((Res.ok y2_)).bind fun (t1034 : Int) => ((Res.ok z1_)).bind fun (t1035 : Int) => Res.need (CMulX t1034 t1035) (Res.ok (t1034 * t1035))).bind fun (t1036 : Int) => ((Res.ok z1_)).bind fun (t1037 : Int) => Res.need (CMulX t1036 t1037) (Res.ok (t1036 * t1037))).bind fun (t1038 : Int) => ((Res.ok z1_)).bind fun (t1039 : Int) => Res.need (CMulX t1038 t1039) (Res.ok (t1038 * t1039))).bind fun (s2_ : Int) =>   (((((Res.ok u1_)).bind fun (t1040 : Int) => ((Res.ok u2_)).bind fun (t1041 : Int) => Res.ok (t1040 - t1041)).bind fun (t1042 : Int) => ((Res.ok prime_)).bind fun (t1043 : Int) => Res.need (0 < t1043) (Res.ok (t1042 % t1043))).bind fun (t1044 : Int) => ((Res.ok (0 : Int))).bind fun (t1045 : Int) => Res.ok (decide (t1044 = t1045))).bind fun b => cond b   ((((((Res.ok s1_)).bind fun (t1046 : Int) => ((Res.ok s2_)).bind fun (t1047 : Int) => Res.ok (t1046 - t1047)).bind fun (t1048 : Int) => ((Res.ok prime_)).bind fun (t1049 : Int) => Res.need (0 < t1049) (Res.ok (t1048 % t1049))).bind fun (t1050 : Int) => ((Res.ok (0 : Int))).bind fun (t1051 : Int) => Res.ok (decide (t1050 = t1051))).bind fun b => cond b   ((((Res.ok prime_)).bind fun a1053 => (((Res.ok a_)).bind fun a1055 => (((Res.ok first_)).bind fun a1057 => (Res.ok ()).bind fun a1058 => Res.ok (a1057, a1058)).bind fun a1056 => Res.ok (a1055, a1056)).bind fun a1054 => Res.ok (a1053, a1054)).bind fun p1052 => m_u_law_double p1052.1 p1052.2.1 p1052.2.2.1)   ((((Res.ok (1 : Int))).bind fun a1060 => (((Res.ok (1 : Int))).bind fun a1062 => (((Res.ok (0 : Int))).bind fun a1064 => (Res.ok ()).bind fun a1065 => Res.ok (a1064, a1065)).bind fun a1063 => Res.ok (a1062, a1063)).bind fun a1061 => Res.ok (a1060, a1061)).bind fun p1059 => Res.ok (T3.mk p1059.1 p1059.2.1 p1059.2.2.1)))   ((((Res.ok u2_)).bind fun (t1066 : Int) => ((Res.ok u1_)).bind fun (t1067 : Int) => Res.ok (t1066 - t1067)).bind fun (h_ : Int) =>   (((Res.ok s2_)).bind fun (t1068 : Int) => ((Res.ok s1_)).bind fun (t1069 : Int) => Res.ok (t1068 - t1069)).bind fun (r_ : Int) =>   (((((Res.ok r_)).bind fun (t1070 : Int) => ((Res.ok r_)).bind fun (t1071 : Int) => Res.need (CMulX t1070 t1071) (Res.ok (t1070 * t1071))).bind fun (t1076 : Int) => ((((Res.ok h_)).bind fun (t1072 : Int) => ((Res.ok h_)).bind fun (t1073 : Int) => Res.need (CMulX t1072 t1073) (Res.ok (t1072 * t1073))).bind fun (t1074 : Int) => ((Res.ok h_)).bind fun (t1075 : Int) => Res.need (CMulX t1074 t1075) (Res.ok (t1074 * t1075))).bind fun (t1077 : Int) => Res.ok (t1076 - t1077)).bind fun (t1084 : Int) => (((((Res.ok (2 : Int))).bind fun (t1078 : Int) => ((Res.ok u1_)).bind fun (t1079 : Int) => Res.ok (t1078 * t1079)).bind fun (t1080 : Int) => ((Res.ok h_)).bind fun (t1081 : Int) => Res.need (CMulX t1080 t1081) (Res.ok (t1080 * t1081))).bind fun (t1082 : Int) => ((Res.ok h_)).bind fun (t1083 : Int) => Res.need (CMulX t1082 t1083) (Res.ok (t1082 * t1083))).bind fun (t1085 : Int) => Res.ok (t1084 - t1085)).bind fun (x3_ : Int) =>   ((((Res.ok x3_)).bind fun (t1086 : Int) => ((Res.ok prime_)).bind fun (t1087 : Int) => Res.need (0 < t1087) (Res.ok (t1086 % t1087))).bind fun a1113 => ((((((Res.ok r_)).bind fun (t1094 : Int) => (((((Res.ok u1_)).bind fun (t1088 : Int) => ((Res.ok h_)).bind fun (t1089 : Int) => Res.need (CMulX t1088 t1089) (Res.ok (t1088 * t1089))).bind fun (t1090 : Int) => ((Res.ok h_)).bind fun (t1091 : Int) => Res.need (CMulX t1090 t1091) (Res.ok (t1090 * t1091))).bind fun (t1092 : Int) => ((Res.ok x3_)).bind fun (t1093 : Int) => Res.ok (t1092 - t1093)).bind fun (t1095 : Int) => Res.need (CMulX t1094 t1095) (Res.ok (t1094 * t1095))).bind fun (t1102 : Int) => (((((Res.ok s1_)).bind fun (t1096 : Int) => ((Res.ok h_)).bind fun (t1097 : Int) => Res.need (CMulX t1096 t1097) (Res.ok (t1096 * t1097))).bind fun (t1098 : Int) => ((Res.ok h_)).bind fun (t1099 : Int) => Res.need (CMulX t1098 t1099) (Res.ok (t1098 * t1099))).bind fun (t1100 : Int) => ((Res.ok h_)).bind fun (t1101 : Int) => Res.need (CMulX t1100 t1101) (Res.ok (t1100 * t1101))).bind fun (t1103 : Int) => Res.ok (t1102 - t1103)).bind fun (t1104 : Int) => ((Res.ok prime_)).bind fun (t1105 : Int) => Res.need (0 < t1105) (Res.ok (t1104 % t1105))).bind fun a1115 => ((((((Res.ok h_)).bind fun (t1106 : Int) => ((Res.ok z1_)).bind fun (t1107 : Int) => Res.need (CMulX t1106 t1107) (Res.ok (t1106 * t1107))).bind fun (t1108 : Int) => ((Res.ok z2_)).bind fun (t1109 : Int) => Res.need (CMulX t1108 t1109) (Res.ok (t1108 * t1109))).bind fun (t1110 : Int) => ((Res.ok prime_)).bind fun (t1111 : Int) => Res.need (0 < t1111) (Res.ok (t1110 % t1111))).bind fun a1117 => (Res.ok ()).bind fun a1118 => Res.ok (a1117, a1118)).bind fun a1116 => Res.ok (a1115, a1116)).bind fun a1114 => Res.ok (a1113, a1114)).bind fun p1112 => Res.ok (T3.mk p1112.1 p1112.2.1 p1112.2.2.1))))) u1015.a u1015.b u1015.c) u1014.a u1014.b u1014.c
theorem ok_u_law_sum {P : Program} {w : World} {K : PySem.W.Frag} {mg : Str → Option Value} {base : Heap} (T : Facts K mg) {fd : FuncData} (F : FnP K "_law_sum" "_law_sum" s_u_law_sum (He.ga K "_law_sum") fd) :
    FnOk P w K mg base (L2.CX P w) 2 (He.ga K "_law_sum") fd ["prime", "a", "first", "second"] (spM K (fun (p : Int × Int × (T3 Int Int Int) × (T3 Int Int Int) × Unit) => m_u_law_sum p.1 p.2.1 p.2.2.1 p.2.2.2.1)) := by
  obtain ⟨fd_u_law_double, F_u_law_double⟩ := T.d_u_law_double
  have G_u_law_double := ok_u_law_double (P := P) (w := w) (base := base) T F_u_law_double
  have b_u_law_double : Binds K fd_u_law_double ["prime", "a", "triple"] [] := F_u_law_double.bindsN fun _ _ _ _ _ _ us hl => match us, hl with | [_, _, _], _ => rfl
  refine fn_ok F sc_u_law_sum (fun y => rfl) (fun cdv A outer s H E hr => ?_)
  refine ⟨_, (pss_cons (ps_asg (pv 2) (pg_tup rfl (pgs_cons (pg_name (i := 4) sc_u_law_sum.nd rfl (Or.inl rfl)) (pgs_cons (pg_name (i := 5) sc_u_law_sum.nd rfl (Or.inl rfl)) (pgs_cons (pg_name (i := 6) sc_u_law_sum.nd rfl (Or.inl rfl)) pgs_nil))))) (pss_cons (ps_asg (pv 3) (pg_tup rfl (pgs_cons (pg_name (i := 7) sc_u_law_sum.nd rfl (Or.inl rfl)) (pgs_cons (pg_name (i := 8) sc_u_law_sum.nd rfl (Or.inl rfl)) (pgs_cons (pg_name (i := 9) sc_u_law_sum.nd rfl (Or.inl rfl)) pgs_nil))))) (pss_cons (ps_if (pt_cmpR op_eq (pv 6) pe_int (nomark _)) (pss_one (ps_ret (pv 3))) pss_nil) (pss_cons (ps_if (pt_cmpR op_eq (pv 9) pe_int (nomark _)) (pss_one (ps_ret (pv 2))) pss_nil) (pss_cons (ps_set (i := 10) sc_u_law_sum.nd rfl (Or.inl rfl) (pe_op op_mulX (pe_op op_mulX (pv 4) (pv 9)) (pv 9))) (pss_cons (ps_set (i := 11) sc_u_law_sum.nd rfl (Or.inl rfl) (pe_op op_mulX (pe_op op_mulX (pv 7) (pv 6)) (pv 6))) (pss_cons (ps_set (i := 12) sc_u_law_sum.nd rfl (Or.inl rfl) (pe_op op_mulX (pe_op op_mulX (pe_op op_mulX (pv 5) (pv 9)) (pv 9)) (pv 9))) (pss_cons (ps_set (i := 13) sc_u_law_sum.nd rfl (Or.inl rfl) (pe_op op_mulX (pe_op op_mulX (pe_op op_mulX (pv 8) (pv 6)) (pv 6)) (pv 6))) (pss_cons (ps_if (pt_cmpR op_eq (pe_op op_mod (pe_op op_sub (pv 10) (pv 11)) (pv 0)) pe_int (nomark _)) (pss_cons (ps_if (pt_cmpR op_eq (pe_op op_mod (pe_op op_sub (pv 12) (pv 13)) (pv 0)) pe_int (nomark _)) (pss_one (ps_ret (pe_callS G_u_law_double (hr.mono (by decide)) rfl T.g_u_law_double F_u_law_double.kp b_u_law_double (fun σ => passAt (takes_of rfl rfl rfl rfl) σ) (pa_cons (pv 0) (pa_cons (pv 1) (pa_cons (pv 2) pa_nil)))))) pss_nil) (pss_one (ps_ret (pe_tup (pa_cons pe_int (pa_cons pe_int (pa_cons pe_int pa_nil))))))) pss_nil) (pss_cons (ps_set (i := 14) sc_u_law_sum.nd rfl (Or.inl rfl) (pe_op op_sub (pv 11) (pv 10))) (pss_cons (ps_set (i := 15) sc_u_law_sum.nd rfl (Or.inl rfl) (pe_op op_sub (pv 13) (pv 12))) (pss_cons (ps_set (i := 16) sc_u_law_sum.nd rfl (Or.inl rfl) (pe_op op_sub (pe_op op_sub (pe_op op_mulX (pv 15) (pv 15)) (pe_op op_mulX (pe_op op_mulX (pv 14) (pv 14)) (pv 14))) (pe_op op_mulX (pe_op op_mulX (pe_op op_mul pe_int (pv 10)) (pv 14)) (pv 14)))) (pss_one (ps_ret (pe_tup (pa_cons (pe_op op_mod (pv 16) (pv 0)) (pa_cons (pe_op op_mod (pe_op op_sub (pe_op op_mulX (pv 15) (pe_op op_sub (pe_op op_mulX (pe_op op_mulX (pv 10) (pv 14)) (pv 14)) (pv 16))) (pe_op op_mulX (pe_op op_mulX (pe_op op_mulX (pv 12) (pv 14)) (pv 14)) (pv 14))) (pv 0)) (pa_cons (pe_op op_mod (pe_op op_mulX (pe_op op_mulX (pv 14) (pv 6)) (pv 9)) (pv 0)) pa_nil)))))))))))))))))), ?_⟩
  rintro ⟨prime_, a_, first_, second_, ⟨⟩⟩ F0 H0 Q KP L
  show Blk K F0 H0 KP _ [some (.im (toD prime_)), some (.im (toD a_)), some (.im (toD first_)), some (.im (toD second_)), none, none, none, none, none, none, none, none, none, none, none, none, none] (m_u_law_sum prime_ a_ first_ second_)
  unfold m_u_law_sum
  have hs_ := ((ev_var (i := 2) (x := first_) rfl) : EvX K (W0 E) [some (.im (toD prime_)), some (.im (toD a_)), some (.im (toD first_)), some (.im (toD second_)), none, none, none, none, none, none, none, none, none, none, none, none, none] _ _)
  refine blk_seq (blk_asg L trivial hs_ (fun _ => (gx_tup (gxs_cons gx_name (gxs_cons gx_name (gxs_cons gx_name gxs_nil))) rfl)) fun u1014 => ?_)
  show Blk _ _ _ _ _ [some (.im (toD prime_)), some (.im (toD a_)), some (.im (toD first_)), some (.im (toD second_)), some (.im (toD u1014.a)), some (.im (toD u1014.b)), some (.im (toD u1014.c)), none, none, none, none, none, none, none, none, none, none] ((fun (x1_ : Int) (y1_ : Int) (z1_ : Int) => _) u1014.a u1014.b u1014.c)
  generalize u1014.a = x1_
  generalize u1014.b = y1_
  generalize u1014.c = z1_
  show Blk _ _ _ _ _ [some (.im (toD prime_)), some (.im (toD a_)), some (.im (toD first_)), some (.im (toD second_)), some (.im (toD x1_)), some (.im (toD y1_)), some (.im (toD z1_)), none, none, none, none, none, none, none, none, none, none] _
  try refine Blk.nx ?_
  have hs_ := ((ev_var (i := 3) (x := second_) rfl) : EvX K (W0 E) [some (.im (toD prime_)), some (.im (toD a_)), some (.im (toD first_)), some (.im (toD second_)), some (.im (toD x1_)), some (.im (toD y1_)), some (.im (toD z1_)), none, none, none, none, none, none, none, none, none, none] _ _)
  refine blk_seq (blk_asg L trivial hs_ (fun _ => (gx_tup (gxs_cons gx_name (gxs_cons gx_name (gxs_cons gx_name gxs_nil))) rfl)) fun u1015 => ?_)
  show Blk _ _ _ _ _ [some (.im (toD prime_)), some (.im (toD a_)), some (.im (toD first_)), some (.im (toD second_)), some (.im (toD x1_)), some (.im (toD y1_)), some (.im (toD z1_)), some (.im (toD u1015.a)), some (.im (toD u1015.b)), some (.im (toD u1015.c)), none, none, none, none, none, none, none] ((fun (x2_ : Int) (y2_ : Int) (z2_ : Int) => _) u1015.a u1015.b u1015.c)
  generalize u1015.a = x2_
  generalize u1015.b = y2_
  generalize u1015.c = z2_
  show Blk _ _ _ _ _ [some (.im (toD prime_)), some (.im (toD a_)), some (.im (toD first_)), some (.im (toD second_)), some (.im (toD x1_)), some (.im (toD y1_)), some (.im (toD z1_)), some (.im (toD x2_)), some (.im (toD y2_)), some (.im (toD z2_)), none, none, none, none, none, none, none] _
  try refine Blk.nx ?_
  have ht_ := ((et_test (ev_op opx_eqI mild_ok (ev_var (i := 6) (x := z1_) rfl) (ev_int (i := 0)))) : EvT K (W0 E) [some (.im (toD prime_)), some (.im (toD a_)), some (.im (toD first_)), some (.im (toD second_)), some (.im (toD x1_)), some (.im (toD y1_)), some (.im (toD z1_)), some (.im (toD x2_)), some (.im (toD y2_)), some (.im (toD z2_)), none, none, none, none, none, none, none] _ _)
  refine blk_seq (blk_if2 L trivial ht_ ?_ ?_)
  · have hr_ := ((ev_var (i := 3) (x := second_) rfl) : EvX K (W0 E) [some (.im (toD prime_)), some (.im (toD a_)), some (.im (toD first_)), some (.im (toD second_)), some (.im (toD x1_)), some (.im (toD y1_)), some (.im (toD z1_)), some (.im (toD x2_)), some (.im (toD y2_)), some (.im (toD z2_)), none, none, none, none, none, none, none] _ _)
    exact blk_ret L trivial hr_
  · refine blk_nil ?_
    try refine Blk.nx ?_
    have ht_ := ((et_test (ev_op opx_eqI mild_ok (ev_var (i := 9) (x := z2_) rfl) (ev_int (i := 0)))) : EvT K (W0 E) [some (.im (toD prime_)), some (.im (toD a_)), some (.im (toD first_)), some (.im (toD second_)), some (.im (toD x1_)), some (.im (toD y1_)), some (.im (toD z1_)), some (.im (toD x2_)), some (.im (toD y2_)), some (.im (toD z2_)), none, none, none, none, none, none, none] _ _)
    refine blk_seq (blk_if2 L trivial ht_ ?_ ?_)
    · have hr_ := ((ev_var (i := 2) (x := first_) rfl) : EvX K (W0 E) [some (.im (toD prime_)), some (.im (toD a_)), some (.im (toD first_)), some (.im (toD second_)), some (.im (toD x1_)), some (.im (toD y1_)), some (.im (toD z1_)), some (.im (toD x2_)), some (.im (toD y2_)), some (.im (toD z2_)), none, none, none, none, none, none, none] _ _)
      exact blk_ret L trivial hr_
    · refine blk_nil ?_
      try refine Blk.nx ?_
      have hs_ := ((ev_op (opx_I (C := CMulX) (g := fun i j => i * j)) mild_need (ev_op (opx_I (C := CMulX) (g := fun i j => i * j)) mild_need (ev_var (i := 4) (x := x1_) rfl) (ev_var (i := 9) (x := z2_) rfl)) (ev_var (i := 9) (x := z2_) rfl)) : EvX K (W0 E) [some (.im (toD prime_)), some (.im (toD a_)), some (.im (toD first_)), some (.im (toD second_)), some (.im (toD x1_)), some (.im (toD y1_)), some (.im (toD z1_)), some (.im (toD x2_)), some (.im (toD y2_)), some (.im (toD z2_)), none, none, none, none, none, none, none] _ _)
      refine blk_seq (blk_set (i := 10) L trivial hs_ fun u1_ => ?_)
      show Blk _ _ _ _ _ [some (.im (toD prime_)), some (.im (toD a_)), some (.im (toD first_)), some (.im (toD second_)), some (.im (toD x1_)), some (.im (toD y1_)), some (.im (toD z1_)), some (.im (toD x2_)), some (.im (toD y2_)), some (.im (toD z2_)), some (.im (toD u1_)), none, none, none, none, none, none] _
      try refine Blk.nx ?_
      have hs_ := ((ev_op (opx_I (C := CMulX) (g := fun i j => i * j)) mild_need (ev_op (opx_I (C := CMulX) (g := fun i j => i * j)) mild_need (ev_var (i := 7) (x := x2_) rfl) (ev_var (i := 6) (x := z1_) rfl)) (ev_var (i := 6) (x := z1_) rfl)) : EvX K (W0 E) [some (.im (toD prime_)), some (.im (toD a_)), some (.im (toD first_)), some (.im (toD second_)), some (.im (toD x1_)), some (.im (toD y1_)), some (.im (toD z1_)), some (.im (toD x2_)), some (.im (toD y2_)), some (.im (toD z2_)), some (.im (toD u1_)), none, none, none, none, none, none] _ _)
      refine blk_seq (blk_set (i := 11) L trivial hs_ fun u2_ => ?_)
      show Blk _ _ _ _ _ [some (.im (toD prime_)), some (.im (toD a_)), some (.im (toD first_)), some (.im (toD second_)), some (.im (toD x1_)), some (.im (toD y1_)), some (.im (toD z1_)), some (.im (toD x2_)), some (.im (toD y2_)), some (.im (toD z2_)), some (.im (toD u1_)), some (.im (toD u2_)), none, none, none, none, none] _
      try refine Blk.nx ?_
      have hs_ := ((ev_op (opx_I (C := CMulX) (g := fun i j => i * j)) mild_need (ev_op (opx_I (C := CMulX) (g := fun i j => i * j)) mild_need (ev_op (opx_I (C := CMulX) (g := fun i j => i * j)) mild_need (ev_var (i := 5) (x := y1_) rfl) (ev_var (i := 9) (x := z2_) rfl)) (ev_var (i := 9) (x := z2_) rfl)) (ev_var (i := 9) (x := z2_) rfl)) : EvX K (W0 E) [some (.im (toD prime_)), some (.im (toD a_)), some (.im (toD first_)), some (.im (toD second_)), some (.im (toD x1_)), some (.im (toD y1_)), some (.im (toD z1_)), some (.im (toD x2_)), some (.im (toD y2_)), some (.im (toD z2_)), some (.im (toD u1_)), some (.im (toD u2_)), none, none, none, none, none] _ _)
      refine blk_seq (blk_set (i := 12) L trivial hs_ fun s1_ => ?_)
      show Blk _ _ _ _ _ [some (.im (toD prime_)), some (.im (toD a_)), some (.im (toD first_)), some (.im (toD second_)), some (.im (toD x1_)), some (.im (toD y1_)), some (.im (toD z1_)), some (.im (toD x2_)), some (.im (toD y2_)), some (.im (toD z2_)), some (.im (toD u1_)), some (.im (toD u2_)), some (.im (toD s1_)), none, none, none, none] _
      try refine Blk.nx ?_
      have hs_ := ((ev_op (opx_I (C := CMulX) (g := fun i j => i * j)) mild_need (ev_op (opx_I (C := CMulX) (g := fun i j => i * j)) mild_need (ev_op (opx_I (C := CMulX) (g := fun i j => i * j)) mild_need (ev_var (i := 8) (x := y2_) rfl) (ev_var (i := 6) (x := z1_) rfl)) (ev_var (i := 6) (x := z1_) rfl)) (ev_var (i := 6) (x := z1_) rfl)) : EvX K (W0 E) [some (.im (toD prime_)), some (.im (toD a_)), some (.im (toD first_)), some (.im (toD second_)), some (.im (toD x1_)), some (.im (toD y1_)), some (.im (toD z1_)), some (.im (toD x2_)), some (.im (toD y2_)), some (.im (toD z2_)), some (.im (toD u1_)), some (.im (toD u2_)), some (.im (toD s1_)), none, none, none, none] _ _)
      refine blk_seq (blk_set (i := 13) L trivial hs_ fun s2_ => ?_)
      show Blk _ _ _ _ _ [some (.im (toD prime_)), some (.im (toD a_)), some (.im (toD first_)), some (.im (toD second_)), some (.im (toD x1_)), some (.im (toD y1_)), some (.im (toD z1_)), some (.im (toD x2_)), some (.im (toD y2_)), some (.im (toD z2_)), some (.im (toD u1_)), some (.im (toD u2_)), some (.im (toD s1_)), some (.im (toD s2_)), none, none, none] _
      try refine Blk.nx ?_
      have ht_ := ((et_test (ev_op opx_eqI mild_ok (ev_op (opx_I (C := (fun _ j => 0 < j)) (g := fun i j => i % j)) mild_need (ev_op (opx_I0 (g := fun i j => i - j)) mild_ok (ev_var (i := 10) (x := u1_) rfl) (ev_var (i := 11) (x := u2_) rfl)) (ev_var (i := 0) (x := prime_) rfl)) (ev_int (i := 0)))) : EvT K (W0 E) [some (.im (toD prime_)), some (.im (toD a_)), some (.im (toD first_)), some (.im (toD second_)), some (.im (toD x1_)), some (.im (toD y1_)), some (.im (toD z1_)), some (.im (toD x2_)), some (.im (toD y2_)), some (.im (toD z2_)), some (.im (toD u1_)), some (.im (toD u2_)), some (.im (toD s1_)), some (.im (toD s2_)), none, none, none] _ _)
      refine blk_seq (blk_if2 L trivial ht_ ?_ ?_)
      · have ht_ := ((et_test (ev_op opx_eqI mild_ok (ev_op (opx_I (C := (fun _ j => 0 < j)) (g := fun i j => i % j)) mild_need (ev_op (opx_I0 (g := fun i j => i - j)) mild_ok (ev_var (i := 12) (x := s1_) rfl) (ev_var (i := 13) (x := s2_) rfl)) (ev_var (i := 0) (x := prime_) rfl)) (ev_int (i := 0)))) : EvT K (W0 E) [some (.im (toD prime_)), some (.im (toD a_)), some (.im (toD first_)), some (.im (toD second_)), some (.im (toD x1_)), some (.im (toD y1_)), some (.im (toD z1_)), some (.im (toD x2_)), some (.im (toD y2_)), some (.im (toD z2_)), some (.im (toD u1_)), some (.im (toD u2_)), some (.im (toD s1_)), some (.im (toD s2_)), none, none, none] _ _)
        refine blk_seq (blk_if2 L trivial ht_ ?_ ?_)
        · have hr_ := ((ev_call (f := (fun (p : Int × Int × (T3 Int Int Int) × Unit) => m_u_law_double p.1 p.2.1 p.2.2.1)) (ea_cons (ev_var (i := 0) (x := prime_) rfl) (ea_cons (ev_var (i := 1) (x := a_) rfl) (ea_cons (ev_var (i := 2) (x := first_) rfl) ea_nil)))) : EvX K (W0 E) [some (.im (toD prime_)), some (.im (toD a_)), some (.im (toD first_)), some (.im (toD second_)), some (.im (toD x1_)), some (.im (toD y1_)), some (.im (toD z1_)), some (.im (toD x2_)), some (.im (toD y2_)), some (.im (toD z2_)), some (.im (toD u1_)), some (.im (toD u2_)), some (.im (toD s1_)), some (.im (toD s2_)), none, none, none] _ _)
          exact blk_ret L trivial hr_
        · refine blk_nil ?_
          try refine Blk.nx ?_
          have hr_ := ((ev_tup (f := (fun y => T3.mk y.1 y.2.1 y.2.2.1)) (ea_cons (ev_int (i := 1)) (ea_cons (ev_int (i := 1)) (ea_cons (ev_int (i := 0)) ea_nil))) (fun _ => rfl) (fun _ => by show 3 ≤ 100000; decide)) : EvX K (W0 E) [some (.im (toD prime_)), some (.im (toD a_)), some (.im (toD first_)), some (.im (toD second_)), some (.im (toD x1_)), some (.im (toD y1_)), some (.im (toD z1_)), some (.im (toD x2_)), some (.im (toD y2_)), some (.im (toD z2_)), some (.im (toD u1_)), some (.im (toD u2_)), some (.im (toD s1_)), some (.im (toD s2_)), none, none, none] _ _)
          exact blk_ret L trivial hr_
      · refine blk_nil ?_
        try refine Blk.nx ?_
        have hs_ := ((ev_op (opx_I0 (g := fun i j => i - j)) mild_ok (ev_var (i := 11) (x := u2_) rfl) (ev_var (i := 10) (x := u1_) rfl)) : EvX K (W0 E) [some (.im (toD prime_)), some (.im (toD a_)), some (.im (toD first_)), some (.im (toD second_)), some (.im (toD x1_)), some (.im (toD y1_)), some (.im (toD z1_)), some (.im (toD x2_)), some (.im (toD y2_)), some (.im (toD z2_)), some (.im (toD u1_)), some (.im (toD u2_)), some (.im (toD s1_)), some (.im (toD s2_)), none, none, none] _ _)
        refine blk_seq (blk_set (i := 14) L trivial hs_ fun h_ => ?_)
        show Blk _ _ _ _ _ [some (.im (toD prime_)), some (.im (toD a_)), some (.im (toD first_)), some (.im (toD second_)), some (.im (toD x1_)), some (.im (toD y1_)), some (.im (toD z1_)), some (.im (toD x2_)), some (.im (toD y2_)), some (.im (toD z2_)), some (.im (toD u1_)), some (.im (toD u2_)), some (.im (toD s1_)), some (.im (toD s2_)), some (.im (toD h_)), none, none] _
        try refine Blk.nx ?_
        have hs_ := ((ev_op (opx_I0 (g := fun i j => i - j)) mild_ok (ev_var (i := 13) (x := s2_) rfl) (ev_var (i := 12) (x := s1_) rfl)) : EvX K (W0 E) [some (.im (toD prime_)), some (.im (toD a_)), some (.im (toD first_)), some (.im (toD second_)), some (.im (toD x1_)), some (.im (toD y1_)), some (.im (toD z1_)), some (.im (toD x2_)), some (.im (toD y2_)), some (.im (toD z2_)), some (.im (toD u1_)), some (.im (toD u2_)), some (.im (toD s1_)), some (.im (toD s2_)), some (.im (toD h_)), none, none] _ _)
        refine blk_seq (blk_set (i := 15) L trivial hs_ fun r_ => ?_)
        show Blk _ _ _ _ _ [some (.im (toD prime_)), some (.im (toD a_)), some (.im (toD first_)), some (.im (toD second_)), some (.im (toD x1_)), some (.im (toD y1_)), some (.im (toD z1_)), some (.im (toD x2_)), some (.im (toD y2_)), some (.im (toD z2_)), some (.im (toD u1_)), some (.im (toD u2_)), some (.im (toD s1_)), some (.im (toD s2_)), some (.im (toD h_)), some (.im (toD r_)), none] _
        try refine Blk.nx ?_
        have hs_ := ((ev_op (opx_I0 (g := fun i j => i - j)) mild_ok (ev_op (opx_I0 (g := fun i j => i - j)) mild_ok (ev_op (opx_I (C := CMulX) (g := fun i j => i * j)) mild_need (ev_var (i := 15) (x := r_) rfl) (ev_var (i := 15) (x := r_) rfl)) (ev_op (opx_I (C := CMulX) (g := fun i j => i * j)) mild_need (ev_op (opx_I (C := CMulX) (g := fun i j => i * j)) mild_need (ev_var (i := 14) (x := h_) rfl) (ev_var (i := 14) (x := h_) rfl)) (ev_var (i := 14) (x := h_) rfl))) (ev_op (opx_I (C := CMulX) (g := fun i j => i * j)) mild_need (ev_op (opx_I (C := CMulX) (g := fun i j => i * j)) mild_need (ev_opI (C := CMul) (g := fun i j => i * j) (fun x y h _ => by cases h; exact .inl (by decide)) (ev_int (i := 2)) (ev_var (i := 10) (x := u1_) rfl)) (ev_var (i := 14) (x := h_) rfl)) (ev_var (i := 14) (x := h_) rfl))) : EvX K (W0 E) [some (.im (toD prime_)), some (.im (toD a_)), some (.im (toD first_)), some (.im (toD second_)), some (.im (toD x1_)), some (.im (toD y1_)), some (.im (toD z1_)), some (.im (toD x2_)), some (.im (toD y2_)), some (.im (toD z2_)), some (.im (toD u1_)), some (.im (toD u2_)), some (.im (toD s1_)), some (.im (toD s2_)), some (.im (toD h_)), some (.im (toD r_)), none] _ _)
        refine blk_seq (blk_set (i := 16) L trivial hs_ fun x3_ => ?_)
        show Blk _ _ _ _ _ [some (.im (toD prime_)), some (.im (toD a_)), some (.im (toD first_)), some (.im (toD second_)), some (.im (toD x1_)), some (.im (toD y1_)), some (.im (toD z1_)), some (.im (toD x2_)), some (.im (toD y2_)), some (.im (toD z2_)), some (.im (toD u1_)), some (.im (toD u2_)), some (.im (toD s1_)), some (.im (toD s2_)), some (.im (toD h_)), some (.im (toD r_)), some (.im (toD x3_))] _
        try refine Blk.nx ?_
        have hr_ := ((ev_tup (f := (fun y => T3.mk y.1 y.2.1 y.2.2.1)) (ea_cons (ev_op (opx_I (C := (fun _ j => 0 < j)) (g := fun i j => i % j)) mild_need (ev_var (i := 16) (x := x3_) rfl) (ev_var (i := 0) (x := prime_) rfl)) (ea_cons (ev_op (opx_I (C := (fun _ j => 0 < j)) (g := fun i j => i % j)) mild_need (ev_op (opx_I0 (g := fun i j => i - j)) mild_ok (ev_op (opx_I (C := CMulX) (g := fun i j => i * j)) mild_need (ev_var (i := 15) (x := r_) rfl) (ev_op (opx_I0 (g := fun i j => i - j)) mild_ok (ev_op (opx_I (C := CMulX) (g := fun i j => i * j)) mild_need (ev_op (opx_I (C := CMulX) (g := fun i j => i * j)) mild_need (ev_var (i := 10) (x := u1_) rfl) (ev_var (i := 14) (x := h_) rfl)) (ev_var (i := 14) (x := h_) rfl)) (ev_var (i := 16) (x := x3_) rfl))) (ev_op (opx_I (C := CMulX) (g := fun i j => i * j)) mild_need (ev_op (opx_I (C := CMulX) (g := fun i j => i * j)) mild_need (ev_op (opx_I (C := CMulX) (g := fun i j => i * j)) mild_need (ev_var (i := 12) (x := s1_) rfl) (ev_var (i := 14) (x := h_) rfl)) (ev_var (i := 14) (x := h_) rfl)) (ev_var (i := 14) (x := h_) rfl))) (ev_var (i := 0) (x := prime_) rfl)) (ea_cons (ev_op (opx_I (C := (fun _ j => 0 < j)) (g := fun i j => i % j)) mild_need (ev_op (opx_I (C := CMulX) (g := fun i j => i * j)) mild_need (ev_op (opx_I (C := CMulX) (g := fun i j => i * j)) mild_need (ev_var (i := 14) (x := h_) rfl) (ev_var (i := 6) (x := z1_) rfl)) (ev_var (i := 9) (x := z2_) rfl)) (ev_var (i := 0) (x := prime_) rfl)) ea_nil))) (fun _ => rfl) (fun _ => by show 3 ≤ 100000; decide)) : EvX K (W0 E) [some (.im (toD prime_)), some (.im (toD a_)), some (.im (toD first_)), some (.im (toD second_)), some (.im (toD x1_)), some (.im (toD y1_)), some (.im (toD z1_)), some (.im (toD x2_)), some (.im (toD y2_)), some (.im (toD z2_)), some (.im (toD u1_)), some (.im (toD u2_)), some (.im (toD s1_)), some (.im (toD s2_)), some (.im (toD h_)), some (.im (toD r_)), some (.im (toD x3_))] _ _)
        exact blk_ret L trivial hr_
noncomputable def m_u_law_is_triple_l2 (k2 : Unit → Res Bool) : List D → Unit → Res Bool
  | [], s => k2 s
  | x1126 :: r2, _ =>   (fun (number_ : D) => (((((Res.ok number_)).bind fun a1128 => (Res.ok ()).bind fun a1129 => Res.ok (a1128, a1129)).bind fun p1127 => m_u_law_is_integer p1127.1).bind fun (t1130 : Bool) => Res.ok (!t1130)).bind fun b => cond b   ((Res.ok false))   (m_u_law_is_triple_l2 k2 r2 ())) x1126
noncomputable def m_u_law_is_triple_k3 (actual_ : D) (due_ : (T3 Int Int Int)) : Unit → Res Bool := fun _ =>   ((Res.ok actual_)).bind fun (t1131 : D) => ((Res.ok due_)).bind fun (t1132 : (T3 Int Int Int)) => Res.need ((toD t1131).okq = true ∧ (toD t1132).okq = true) (Res.ok (pyEq (toD t1131) (toD t1132)))
noncomputable def m_u_law_is_triple (actual_ : D) (due_ : (T3 Int Int Int)) : Res Bool :=
  (((((Res.ok actual_)).bind fun (t1119 : D) => Res.need ((toD t1119).plain = true) (Res.ok (isI "tuple" (toD t1119)))).bind fun (t1120 : Bool) => Res.ok (!t1120)).bind fun b1124 => cond b1124 (Res.ok true) ((((Res.ok actual_)).bind fun (t1121 : D) => D.lenR t1121).bind fun (t1122 : Int) => ((Res.ok (3 : Int))).bind fun (t1123 : Int) => Res.ok (!decide (t1122 = t1123)))).bind fun b => cond b   ((Res.ok false))   (((((Res.ok actual_)).bind D.asTu).bind fun (t1125 : (Tu D)) => Res.ok (t1125).xs).bind fun (xs1133 : List D) => m_u_law_is_triple_l2 (m_u_law_is_triple_k3 actual_ due_) xs1133 ())
theorem ok_u_law_is_triple {P : Program} {w : World} {K : PySem.W.Frag} {mg : Str → Option Value} {base : Heap} (T : Facts K mg) {fd : FuncData} (F : FnP K "_law_is_triple" "_law_is_triple" s_u_law_is_triple (He.ga K "_law_is_triple") fd) :
    FnOk P w K mg base (L2.CX P w) 2 (He.ga K "_law_is_triple") fd ["actual", "due"] (spM K (fun (p : D × (T3 Int Int Int) × Unit) => m_u_law_is_triple p.1 p.2.1)) := by
  obtain ⟨fd_u_law_is_integer, F_u_law_is_integer⟩ := T.d_u_law_is_integer
  have G_u_law_is_integer := ok_u_law_is_integer (P := P) (w := w) (base := base) T F_u_law_is_integer
  have b_u_law_is_integer : Binds K fd_u_law_is_integer ["actual"] [] := F_u_law_is_integer.bindsN fun _ _ _ _ _ _ us hl => match us, hl with | [_], _ => rfl
  refine fn_ok F sc_u_law_is_triple (fun y => rfl) (fun cdv A outer s H E hr => ?_)
  refine ⟨_, (pss_cons (ps_if (PW.pt (pw_or (pt_not (pt_val (pe_callB call_isi (by rfl) T.n_isinstance (by decide +kernel) (pa_cons (pv 0) (pa_cons (pe_bltn (v := .ty "tuple") (by rfl) T.n_tuple (by decide +kernel) rfl) pa_nil))))) (pw_or1 (pt_cmpR op_ne (pe_callB (cr_len rfl) (by rfl) T.n_len (by decide +kernel) (pa_cons (pv 0) pa_nil)) pe_int (nomark _))))) (pss_one (ps_ret pe_bl)) pss_nil) (pss_cons (ps_for (passes_of rfl) rfl (pi_tup (pv 0)) (pg_name (i := 2) sc_u_law_is_triple.nd rfl (Or.inl rfl)) (pss_one (ps_if (pt_not (pt_val (pe_callS G_u_law_is_integer (hr.mono (by decide)) rfl T.g_u_law_is_integer F_u_law_is_integer.kp b_u_law_is_integer (fun σ => passAt (takes_of rfl rfl rfl rfl) σ) (pa_cons (pv 2) pa_nil)))) (pss_one (ps_ret pe_bl)) pss_nil))) (pss_one (ps_ret (pe_cmpR (op_eqD (Room.units hr)) (pv 0) (pv 1) (nomark _)))))), ?_⟩
  rintro ⟨actual_, due_, ⟨⟩⟩ F0 H0 Q KP L
  show Blk K F0 H0 KP _ [some (.im (toD actual_)), some (.im (toD due_)), none] (m_u_law_is_triple actual_ due_)
  unfold m_u_law_is_triple
  have ht_ := ((et_or (et_not (et_B (ev_isi isi_tuple (ev_var (i := 0) (x := actual_) rfl)))) (et_test (ev_op opx_neI mild_ok (ev_lenD (ev_var (i := 0) (x := actual_) rfl)) (ev_int (i := 3))))) : EvT K (W0 E) [some (.im (toD actual_)), some (.im (toD due_)), none] _ _)
  refine blk_seq (blk_if2 L trivial ht_ ?_ ?_)
  · have hr_ := ((ev_bl (b := false)) : EvX K (W0 E) [some (.im (toD actual_)), some (.im (toD due_)), none] _ _)
    exact blk_ret L trivial hr_
  · refine blk_nil ?_
    try refine Blk.nx ?_
    have hi_ := ((ei_tup (ev_cast (f := D.asTu) asTu_ok asTu_x (ev_var (i := 0) (x := actual_) rfl))) : EvI K (W0 E) [some (.im (toD actual_)), some (.im (toD due_)), none] _ _)
    refine blk_seq (blk_for (S := Unit) (m_u_law_is_triple_l2 (m_u_law_is_triple_k3 actual_ due_)) (m_u_law_is_triple_k3 actual_ due_) (fun _ => [some (.im (toD actual_)), some (.im (toD due_)), none]) () L trivial hi_ (fun _ => gx_name) (.same (.same (.same .nil))) (fun _ => rfl) ?_ ?_)
    · intro F2 L2 hB2 x1126 r2 s_ N_ hN2
      obtain ⟨⟩ := s_
      show Blk _ _ _ _ _ [some (.im (toD actual_)), some (.im (toD due_)), some (.im (toD x1126))] (m_u_law_is_triple_l2 (m_u_law_is_triple_k3 actual_ due_) (x1126 :: r2) ())
      rw [m_u_law_is_triple_l2]
      show Blk _ _ _ _ _ _ ((fun (number_ : D) => _) x1126)
      generalize x1126 = number_
      show Blk _ _ _ _ _ [some (.im (toD actual_)), some (.im (toD due_)), some (.im (toD number_))] _
      have ht_ := ((et_not (et_B (ev_call (f := (fun (p : D × Unit) => m_u_law_is_integer p.1)) (ea_cons (ev_var (i := 2) (x := number_) rfl) ea_nil)))) : EvT K (W0 E) [some (.im (toD actual_)), some (.im (toD due_)), some (.im (toD number_))] _ _)
      refine blk_if2 L2 trivial ht_ ?_ ?_
      · have hr_ := ((ev_bl (b := false)) : EvX K (W0 E) [some (.im (toD actual_)), some (.im (toD due_)), some (.im (toD number_))] _ _)
        exact blk_ret L2 trivial hr_
      · refine blk_nil ?_
        try refine Blk.nx ?_
        exact (hN2 ()).weak (.same (.same (.drop .nil)))
    · intro _
      show Blk _ _ _ _ _ [some (.im (toD actual_)), some (.im (toD due_)), none] ((m_u_law_is_triple_k3 actual_ due_) ())
      unfold m_u_law_is_triple_k3
      try refine Blk.nx ?_
      have hr_ := ((ev_op opx_eqD mild_need (ev_var (i := 0) (x := actual_) rfl) (ev_var (i := 1) (x := due_) rfl)) : EvX K (W0 E) [some (.im (toD actual_)), some (.im (toD due_)), none] _ _)
      exact blk_ret L trivial hr_
noncomputable def m_law (script_ : (List Int)) : Res Bool :=
  ((((((Res.ok script_)).bind fun a1135 => (((Res.ok (0 : Int))).bind fun a1137 => (Res.ok ()).bind fun a1138 => Res.ok (a1137, a1138)).bind fun a1136 => Res.ok (a1135, a1136)).bind fun p1134 => m_u_law_cell p1134.1 p1134.2.1).bind fun a1140 => (Res.ok ()).bind fun a1141 => Res.ok (a1140, a1141)).bind fun p1139 => m_u_law_curve_prime p1139.1).bind fun (prime_ : Int) =>   ((((Res.ok script_)).bind fun a1143 => (((Res.ok (1 : Int))).bind fun a1145 => (((Res.ok prime_)).bind fun a1147 => (Res.ok ()).bind fun a1148 => Res.ok (a1147, a1148)).bind fun a1146 => Res.ok (a1145, a1146)).bind fun a1144 => Res.ok (a1143, a1144)).bind fun p1142 => m_u_law_curve_and_points p1142.1 p1142.2.1 p1142.2.2.1).bind fun (u1149 : (T4 Int Int (T2 Int Int) (T2 Int Int))) =>   (fun (a_ : Int) (b_ : Int) (first_ : (T2 Int Int)) (second_ : (T2 Int Int)) => ((((Res.ok prime_)).bind fun a1151 => (((Res.ok a_)).bind fun a1153 => (((Res.ok b_)).bind fun a1155 => (Res.ok ()).bind fun a1156 => Res.ok (a1155, a1156)).bind fun a1154 => Res.ok (a1153, a1154)).bind fun a1152 => Res.ok (a1151, a1152)).bind fun p1150 => m_u_law_singular p1150.1 p1150.2.1 p1150.2.2.1).bind fun b => cond b   ((Res.ok true))   (((((Res.ok prime_)).bind fun a1158 => (((Res.ok a_)).bind fun a1160 => (((Res.ok b_)).bind fun a1162 => (Res.ok ()).bind fun a1163 => Res.ok (a1162, a1163)).bind fun a1161 => Res.ok (a1160, a1161)).bind fun a1159 => Res.ok (a1158, a1159)).bind fun p1157 => m_Curve_init p1157.1 p1157.2.1 p1157.2.2.1).bind fun (curve_ : O_Curve) =>   (((((Res.ok first_)).bind fun (x : (T2 Int Int)) => Res.ok (some x)).bind fun a1184 => ((((Res.ok second_)).bind fun (x : (T2 Int Int)) => Res.ok (some x)).bind fun a1186 => (((((((Res.ok first_)).bind fun (t1164 : (T2 Int Int)) => Res.ok t1164.a).bind fun a1170 => ((((((Res.ok first_)).bind fun (t1165 : (T2 Int Int)) => Res.ok t1165.b).bind fun (t1166 : Int) => Res.ok (-t1166)).bind fun (t1167 : Int) => ((Res.ok prime_)).bind fun (t1168 : Int) => Res.need (0 < t1168) (Res.ok (t1167 % t1168))).bind fun a1172 => (Res.ok ()).bind fun a1173 => Res.ok (a1172, a1173)).bind fun a1171 => Res.ok (a1170, a1171)).bind fun p1169 => Res.ok (T2.mk p1169.1 p1169.2.1)).bind fun (x : (T2 Int Int)) => Res.ok (some x)).bind fun a1188 => (((((Res.ok prime_)).bind fun a1175 => (((Res.ok a_)).bind fun a1177 => ((((Res.ok first_)).bind fun (x : (T2 Int Int)) => Res.ok (some x)).bind fun a1179 => ((((Res.ok second_)).bind fun (x : (T2 Int Int)) => Res.ok (some x)).bind fun a1181 => (Res.ok ()).bind fun a1182 => Res.ok (a1181, a1182)).bind fun a1180 => Res.ok (a1179, a1180)).bind fun a1178 => Res.ok (a1177, a1178)).bind fun a1176 => Res.ok (a1175, a1176)).bind fun p1174 => m_u_law_add p1174.1 p1174.2.1 p1174.2.2.1 p1174.2.2.2.1).bind fun a1190 => (((Res.ok (none : (Option (T2 Int Int))))).bind fun a1192 => (Res.ok ()).bind fun a1193 => Res.ok (a1192, a1193)).bind fun a1191 => Res.ok (a1190, a1191)).bind fun a1189 => Res.ok (a1188, a1189)).bind fun a1187 => Res.ok (a1186, a1187)).bind fun a1185 => Res.ok (a1184, a1185)).bind fun p1183 => Res.ok ([p1183.1, p1183.2.1, p1183.2.2.1, p1183.2.2.2.1, p1183.2.2.2.2.1] : List (Option (T2 Int Int)))).bind fun (points_ : (List (Option (T2 Int Int)))) =>   (((((((Res.ok script_)).bind fun a1195 => (((Res.ok (6 : Int))).bind fun a1197 => (Res.ok ()).bind fun a1198 => Res.ok (a1197, a1198)).bind fun a1196 => Res.ok (a1195, a1196)).bind fun p1194 => m_u_law_cell p1194.1 p1194.2.1).bind fun a1200 => (Res.ok ()).bind fun a1201 => Res.ok (a1200, a1201)).bind fun p1199 => Res.ok (Int.natAbs p1199.1 : Int)).bind fun (t1202 : Int) => ((Res.ok (5 : Int))).bind fun (t1203 : Int) => Res.ok (t1202 % t1203)).bind fun (one_ : Int) =>   ((((((((Res.ok script_)).bind fun a1205 => (((Res.ok (6 : Int))).bind fun a1207 => (Res.ok ()).bind fun a1208 => Res.ok (a1207, a1208)).bind fun a1206 => Res.ok (a1205, a1206)).bind fun p1204 => m_u_law_cell p1204.1 p1204.2.1).bind fun a1210 => (Res.ok ()).bind fun a1211 => Res.ok (a1210, a1211)).bind fun p1209 => Res.ok (Int.natAbs p1209.1 : Int)).bind fun (t1212 : Int) => ((Res.ok (5 : Int))).bind fun (t1213 : Int) => Res.ok (t1212 / t1213)).bind fun (t1214 : Int) => ((Res.ok (5 : Int))).bind fun (t1215 : Int) => Res.ok (t1214 % t1215)).bind fun (other_ : Int) =>   ((((Res.ok (2 : Int))).bind fun (t1216 : Int) => Res.need (okRange t1216) (Res.ok (pyRange 0 t1216))).bind fun (xs1234 : List Int) => Res.need (xs1234.length ≤ 16777216) (compL (fun (x1217 : Int) => Res.ok true) (fun (x1217 : Int) => ((Res.ok (1 : Int))).bind fun (t1232 : Int) => ((((((Res.ok script_)).bind fun a1221 => ((((Res.ok (7 : Int))).bind fun (t1218 : Int) => ((Res.ok x1217)).bind fun (t1219 : Int) => Res.ok (t1218 + t1219)).bind fun a1223 => (Res.ok ()).bind fun a1224 => Res.ok (a1223, a1224)).bind fun a1222 => Res.ok (a1221, a1222)).bind fun p1220 => (m_u_law_cell p1220.1 p1220.2.1).noexc).bind fun a1228 => ((((Res.ok prime_)).bind fun (t1225 : Int) => ((Res.ok (1 : Int))).bind fun (t1226 : Int) => Res.ok (t1225 - t1226)).bind fun a1230 => (Res.ok ()).bind fun a1231 => Res.ok (a1230, a1231)).bind fun a1229 => Res.ok (a1228, a1229)).bind fun p1227 => (m_u_law_residue p1227.1 p1227.2.1).noexc).bind fun (t1233 : Int) => Res.ok (t1232 + t1233)) xs1234)).bind fun (scales_ : (List Int)) =>   (((((Res.ok points_)).bind fun (t1235 : (List (Option (T2 Int Int)))) => ((Res.ok one_)).bind fun (t1236 : Int) => idx t1235 t1236).bind fun a1245 => ((((Res.ok scales_)).bind fun (t1237 : (List Int)) => ((Res.ok (0 : Int))).bind fun (t1238 : Int) => idx t1237 t1238).bind fun a1247 => (((Res.ok prime_)).bind fun a1249 => (((((Res.ok script_)).bind fun a1240 => (((Res.ok (9 : Int))).bind fun a1242 => (Res.ok ()).bind fun a1243 => Res.ok (a1242, a1243)).bind fun a1241 => Res.ok (a1240, a1241)).bind fun p1239 => m_u_law_cell p1239.1 p1239.2.1).bind fun a1251 => (Res.ok ()).bind fun a1252 => Res.ok (a1251, a1252)).bind fun a1250 => Res.ok (a1249, a1250)).bind fun a1248 => Res.ok (a1247, a1248)).bind fun a1246 => Res.ok (a1245, a1246)).bind fun p1244 => m_u_law_triple p1244.1 p1244.2.1 p1244.2.2.1 p1244.2.2.2.1).bind fun (left_ : (T3 Int Int Int)) =>   (((((Res.ok points_)).bind fun (t1253 : (List (Option (T2 Int Int)))) => ((Res.ok other_)).bind fun (t1254 : Int) => idx t1253 t1254).bind fun a1263 => ((((Res.ok scales_)).bind fun (t1255 : (List Int)) => ((Res.ok (1 : Int))).bind fun (t1256 : Int) => idx t1255 t1256).bind fun a1265 => (((Res.ok prime_)).bind fun a1267 => (((((Res.ok script_)).bind fun a1258 => (((Res.ok (10 : Int))).bind fun a1260 => (Res.ok ()).bind fun a1261 => Res.ok (a1260, a1261)).bind fun a1259 => Res.ok (a1258, a1259)).bind fun p1257 => m_u_law_cell p1257.1 p1257.2.1).bind fun a1269 => (Res.ok ()).bind fun a1270 => Res.ok (a1269, a1270)).bind fun a1268 => Res.ok (a1267, a1268)).bind fun a1266 => Res.ok (a1265, a1266)).bind fun a1264 => Res.ok (a1263, a1264)).bind fun p1262 => m_u_law_triple p1262.1 p1262.2.1 p1262.2.2.1 p1262.2.2.2.1).bind fun (right_ : (T3 Int Int Int)) =>   (((((((Res.ok points_)).bind fun (t1271 : (List (Option (T2 Int Int)))) => ((Res.ok one_)).bind fun (t1272 : Int) => idx t1271 t1272).bind fun a1274 => (Res.ok ()).bind fun a1275 => Res.ok (a1274, a1275)).bind fun p1273 => m_to_jacobian p1273.1).bind fun (t1287 : (T3 Int Int Int)) => (((((Res.ok points_)).bind fun (t1276 : (List (Option (T2 Int Int)))) => ((Res.ok one_)).bind fun (t1277 : Int) => idx t1276 t1277).bind fun a1279 => (((Res.ok (1 : Int))).bind fun a1281 => (((Res.ok prime_)).bind fun a1283 => (((Res.ok (0 : Int))).bind fun a1285 => (Res.ok ()).bind fun a1286 => Res.ok (a1285, a1286)).bind fun a1284 => Res.ok (a1283, a1284)).bind fun a1282 => Res.ok (a1281, a1282)).bind fun a1280 => Res.ok (a1279, a1280)).bind fun p1278 => m_u_law_triple p1278.1 p1278.2.1 p1278.2.2.1 p1278.2.2.2.1).bind fun (t1288 : (T3 Int Int Int)) => Res.need ((toD t1287).okq = true ∧ (toD t1288).okq = true) (Res.ok (!pyEq (toD t1287) (toD t1288)))).bind fun b1293 => cond b1293 ((((Res.ok points_)).bind fun (t1289 : (List (Option (T2 Int Int)))) => ((Res.ok one_)).bind fun (t1290 : Int) => idx t1289 t1290).bind fun (t1291 : (Option (T2 Int Int))) => ((Res.ok ())).bind fun (t1292 : Unit) => Res.ok (!(toD t1291).isNon)) (Res.ok false)).bind fun b => cond b   ((Res.ok false))   (((((((Res.ok (none : (Option (T2 Int Int))))).bind fun a1295 => (Res.ok ()).bind fun a1296 => Res.ok (a1295, a1296)).bind fun p1294 => m_to_jacobian p1294.1).bind fun (t1304 : (T3 Int Int Int)) => ((((Res.ok (1 : Int))).bind fun a1298 => (((Res.ok (1 : Int))).bind fun a1300 => (((Res.ok (0 : Int))).bind fun a1302 => (Res.ok ()).bind fun a1303 => Res.ok (a1302, a1303)).bind fun a1301 => Res.ok (a1300, a1301)).bind fun a1299 => Res.ok (a1298, a1299)).bind fun p1297 => Res.ok (T3.mk p1297.1 p1297.2.1 p1297.2.2.1)).bind fun (t1305 : (T3 Int Int Int)) => Res.need ((toD t1304).okq = true ∧ (toD t1305).okq = true) (Res.ok (!pyEq (toD t1304) (toD t1305)))).bind fun b1315 => cond b1315 (Res.ok true) (((((Res.ok curve_)).bind fun a1307 => (((Res.ok left_)).bind fun a1309 => (Res.ok ()).bind fun a1310 => Res.ok (a1309, a1310)).bind fun a1308 => Res.ok (a1307, a1308)).bind fun p1306 => m_from_jacobian p1306.1 p1306.2.1).bind fun (t1313 : (Option (T2 Int Int))) => (((Res.ok points_)).bind fun (t1311 : (List (Option (T2 Int Int)))) => ((Res.ok one_)).bind fun (t1312 : Int) => idx t1311 t1312).bind fun (t1314 : (Option (T2 Int Int))) => Res.need ((toD t1313).okq = true ∧ (toD t1314).okq = true) (Res.ok (!pyEq (toD t1313) (toD t1314))))).bind fun b => cond b   ((Res.ok false))   (((((Res.ok curve_)).bind fun a1317 => (((Res.ok left_)).bind fun a1319 => (Res.ok ()).bind fun a1320 => Res.ok (a1319, a1320)).bind fun a1318 => Res.ok (a1317, a1318)).bind fun p1316 => m_double_jacobian p1316.1 p1316.2.1).bind fun (twice_ : (T3 Int Int Int)) =>   ((((Res.ok curve_)).bind fun a1322 => (((Res.ok left_)).bind fun a1324 => (((Res.ok right_)).bind fun a1326 => (Res.ok ()).bind fun a1327 => Res.ok (a1326, a1327)).bind fun a1325 => Res.ok (a1324, a1325)).bind fun a1323 => Res.ok (a1322, a1323)).bind fun p1321 => m_add_jacobian p1321.1 p1321.2.1 p1321.2.2.1).bind fun (total_ : (T3 Int Int Int)) =>   (((((((Res.ok twice_)).bind fun (x : (T3 Int Int Int)) => Res.ok (toD x)).bind fun a1336 => (((((Res.ok prime_)).bind fun a1329 => (((Res.ok a_)).bind fun a1331 => (((Res.ok left_)).bind fun a1333 => (Res.ok ()).bind fun a1334 => Res.ok (a1333, a1334)).bind fun a1332 => Res.ok (a1331, a1332)).bind fun a1330 => Res.ok (a1329, a1330)).bind fun p1328 => m_u_law_double p1328.1 p1328.2.1 p1328.2.2.1).bind fun a1338 => (Res.ok ()).bind fun a1339 => Res.ok (a1338, a1339)).bind fun a1337 => Res.ok (a1336, a1337)).bind fun p1335 => m_u_law_is_triple p1335.1 p1335.2.1).bind fun (t1340 : Bool) => Res.ok (!t1340)).bind fun b1356 => cond b1356 (Res.ok true) ((((((Res.ok total_)).bind fun (x : (T3 Int Int Int)) => Res.ok (toD x)).bind fun a1351 => (((((Res.ok prime_)).bind fun a1342 => (((Res.ok a_)).bind fun a1344 => (((Res.ok left_)).bind fun a1346 => (((Res.ok right_)).bind fun a1348 => (Res.ok ()).bind fun a1349 => Res.ok (a1348, a1349)).bind fun a1347 => Res.ok (a1346, a1347)).bind fun a1345 => Res.ok (a1344, a1345)).bind fun a1343 => Res.ok (a1342, a1343)).bind fun p1341 => m_u_law_sum p1341.1 p1341.2.1 p1341.2.2.1 p1341.2.2.2.1).bind fun a1353 => (Res.ok ()).bind fun a1354 => Res.ok (a1353, a1354)).bind fun a1352 => Res.ok (a1351, a1352)).bind fun p1350 => m_u_law_is_triple p1350.1 p1350.2.1).bind fun (t1355 : Bool) => Res.ok (!t1355))).bind fun b => cond b   ((Res.ok false))   ((((((Res.ok curve_)).bind fun a1358 => (((Res.ok twice_)).bind fun a1360 => (Res.ok ()).bind fun a1361 => Res.ok (a1360, a1361)).bind fun a1359 => Res.ok (a1358, a1359)).bind fun p1357 => m_from_jacobian p1357.1 p1357.2.1).bind fun (t1375 : (Option (T2 Int Int))) => ((((Res.ok prime_)).bind fun a1367 => (((Res.ok a_)).bind fun a1369 => ((((Res.ok points_)).bind fun (t1362 : (List (Option (T2 Int Int)))) => ((Res.ok one_)).bind fun (t1363 : Int) => idx t1362 t1363).bind fun a1371 => ((((Res.ok points_)).bind fun (t1364 : (List (Option (T2 Int Int)))) => ((Res.ok one_)).bind fun (t1365 : Int) => idx t1364 t1365).bind fun a1373 => (Res.ok ()).bind fun a1374 => Res.ok (a1373, a1374)).bind fun a1372 => Res.ok (a1371, a1372)).bind fun a1370 => Res.ok (a1369, a1370)).bind fun a1368 => Res.ok (a1367, a1368)).bind fun p1366 => m_u_law_add p1366.1 p1366.2.1 p1366.2.2.1 p1366.2.2.2.1).bind fun (t1376 : (Option (T2 Int Int))) => Res.need ((toD t1375).okq = true ∧ (toD t1376).okq = true) (Res.ok (!pyEq (toD t1375) (toD t1376)))).bind fun b => cond b   ((Res.ok false))   ((((((Res.ok curve_)).bind fun a1378 => (((Res.ok total_)).bind fun a1380 => (Res.ok ()).bind fun a1381 => Res.ok (a1380, a1381)).bind fun a1379 => Res.ok (a1378, a1379)).bind fun p1377 => m_from_jacobian p1377.1 p1377.2.1).bind fun (t1395 : (Option (T2 Int Int))) => ((((Res.ok prime_)).bind fun a1387 => (((Res.ok a_)).bind fun a1389 => ((((Res.ok points_)).bind fun (t1382 : (List (Option (T2 Int Int)))) => ((Res.ok one_)).bind fun (t1383 : Int) => idx t1382 t1383).bind fun a1391 => ((((Res.ok points_)).bind fun (t1384 : (List (Option (T2 Int Int)))) => ((Res.ok other_)).bind fun (t1385 : Int) => idx t1384 t1385).bind fun a1393 => (Res.ok ()).bind fun a1394 => Res.ok (a1393, a1394)).bind fun a1392 => Res.ok (a1391, a1392)).bind fun a1390 => Res.ok (a1389, a1390)).bind fun a1388 => Res.ok (a1387, a1388)).bind fun p1386 => m_u_law_add p1386.1 p1386.2.1 p1386.2.2.1 p1386.2.2.2.1).bind fun (t1396 : (Option (T2 Int Int))) => Res.need ((toD t1395).okq = true ∧ (toD t1396).okq = true) (Res.ok (!pyEq (toD t1395) (toD t1396)))).bind fun b => cond b   ((Res.ok false))   (((((Res.ok curve_)).bind fun a1398 => (((Res.ok left_)).bind fun a1400 => (((Res.ok right_)).bind fun a1402 => (Res.ok ()).bind fun a1403 => Res.ok (a1402, a1403)).bind fun a1401 => Res.ok (a1400, a1401)).bind fun a1399 => Res.ok (a1398, a1399)).bind fun p1397 => m_same_point p1397.1 p1397.2.1 p1397.2.2.1).bind fun (same_ : Bool) =>   (((((Res.ok same_)).bind fun (t1404 : Bool) => Res.need ((toD t1404).plain = true) (Res.ok (isI "bool" (toD t1404)))).bind fun (t1405 : Bool) => Res.ok (!t1405)).bind fun b1414 => cond b1414 (Res.ok true) (((Res.ok same_)).bind fun (t1412 : Bool) => ((((Res.ok points_)).bind fun (t1406 : (List (Option (T2 Int Int)))) => ((Res.ok one_)).bind fun (t1407 : Int) => idx t1406 t1407).bind fun (t1410 : (Option (T2 Int Int))) => (((Res.ok points_)).bind fun (t1408 : (List (Option (T2 Int Int)))) => ((Res.ok other_)).bind fun (t1409 : Int) => idx t1408 t1409).bind fun (t1411 : (Option (T2 Int Int))) => Res.need ((toD t1410).okq = true ∧ (toD t1411).okq = true) (Res.ok (pyEq (toD t1410) (toD t1411)))).bind fun (t1413 : Bool) => Res.ok (!(t1412 == t1413)))).bind fun b => cond b   ((Res.ok false))   ((((((Res.ok curve_)).bind fun a1421 => (((Res.ok left_)).bind fun a1423 => ((((((Res.ok points_)).bind fun (t1415 : (List (Option (T2 Int Int)))) => ((Res.ok one_)).bind fun (t1416 : Int) => idx t1415 t1416).bind fun a1418 => (Res.ok ()).bind fun a1419 => Res.ok (a1418, a1419)).bind fun p1417 => m_to_jacobian p1417.1).bind fun a1425 => (Res.ok ()).bind fun a1426 => Res.ok (a1425, a1426)).bind fun a1424 => Res.ok (a1423, a1424)).bind fun a1422 => Res.ok (a1421, a1422)).bind fun p1420 => m_same_point p1420.1 p1420.2.1 p1420.2.2.1).bind fun (t1427 : Bool) => ((Res.ok true)).bind fun (t1428 : Bool) => Res.ok (decide (t1427 = t1428))).bind fun b1445 => cond b1445 (((((Res.ok curve_)).bind fun a1437 => (((Res.ok total_)).bind fun a1439 => (((((Res.ok curve_)).bind fun a1430 => (((Res.ok right_)).bind fun a1432 => (((Res.ok left_)).bind fun a1434 => (Res.ok ()).bind fun a1435 => Res.ok (a1434, a1435)).bind fun a1433 => Res.ok (a1432, a1433)).bind fun a1431 => Res.ok (a1430, a1431)).bind fun p1429 => m_add_jacobian p1429.1 p1429.2.1 p1429.2.2.1).bind fun a1441 => (Res.ok ()).bind fun a1442 => Res.ok (a1441, a1442)).bind fun a1440 => Res.ok (a1439, a1440)).bind fun a1438 => Res.ok (a1437, a1438)).bind fun p1436 => m_same_point p1436.1 p1436.2.1 p1436.2.2.1).bind fun (t1443 : Bool) => ((Res.ok true)).bind fun (t1444 : Bool) => Res.ok (decide (t1443 = t1444))) (Res.ok false))))))))) u1149.a u1149.b u1149.c u1149.e
theorem ok_law {P : Program} {w : World} {K : PySem.W.Frag} {mg : Str → Option Value} {base : Heap} (T : Facts K mg) {fd : FuncData} (F : FnP K "law" "law" s_law (He.ga K "law") fd) :
    FnOk P w K mg base (L2.CX P w) 4 (He.ga K "law") fd ["script"] (spM K (fun (p : (List Int) × Unit) => m_law p.1)) := by
  obtain ⟨fd_Curve_init, F_Curve_init⟩ := T.d_Curve_init
  have G_Curve_init := ok_Curve_init (P := P) (w := w) (base := base) T F_Curve_init
  have b_Curve_init : Binds K fd_Curve_init ["self", "prime", "a", "b"] [] := F_Curve_init.bindsN fun _ _ _ _ _ _ us hl => match us, hl with | [_, _, _, _], _ => rfl
  obtain ⟨fd_u_law_add, F_u_law_add⟩ := T.d_u_law_add
  have G_u_law_add := ok_u_law_add (P := P) (w := w) (base := base) T F_u_law_add
  have b_u_law_add : Binds K fd_u_law_add ["prime", "a", "first", "second"] [] := F_u_law_add.bindsN fun _ _ _ _ _ _ us hl => match us, hl with | [_, _, _, _], _ => rfl
  obtain ⟨fd_u_law_cell, F_u_law_cell⟩ := T.d_u_law_cell
  have G_u_law_cell := ok_u_law_cell (P := P) (w := w) (base := base) T F_u_law_cell
  have b_u_law_cell : Binds K fd_u_law_cell ["script", "k"] [] := F_u_law_cell.bindsN fun _ _ _ _ _ _ us hl => match us, hl with | [_, _], _ => rfl
  obtain ⟨fd_u_law_curve_and_points, F_u_law_curve_and_points⟩ := T.d_u_law_curve_and_points
  have G_u_law_curve_and_points := ok_u_law_curve_and_points (P := P) (w := w) (base := base) T F_u_law_curve_and_points
  have b_u_law_curve_and_points : Binds K fd_u_law_curve_and_points ["script", "at", "prime"] [] := F_u_law_curve_and_points.bindsN fun _ _ _ _ _ _ us hl => match us, hl with | [_, _, _], _ => rfl
  obtain ⟨fd_u_law_curve_prime, F_u_law_curve_prime⟩ := T.d_u_law_curve_prime
  have G_u_law_curve_prime := ok_u_law_curve_prime (P := P) (w := w) (base := base) T F_u_law_curve_prime
  have b_u_law_curve_prime : Binds K fd_u_law_curve_prime ["cell"] [] := F_u_law_curve_prime.bindsN fun _ _ _ _ _ _ us hl => match us, hl with | [_], _ => rfl
  obtain ⟨fd_u_law_double, F_u_law_double⟩ := T.d_u_law_double
  have G_u_law_double := ok_u_law_double (P := P) (w := w) (base := base) T F_u_law_double
  have b_u_law_double : Binds K fd_u_law_double ["prime", "a", "triple"] [] := F_u_law_double.bindsN fun _ _ _ _ _ _ us hl => match us, hl with | [_, _, _], _ => rfl
  obtain ⟨fd_u_law_is_triple, F_u_law_is_triple⟩ := T.d_u_law_is_triple
  have G_u_law_is_triple := ok_u_law_is_triple (P := P) (w := w) (base := base) T F_u_law_is_triple
  have b_u_law_is_triple : Binds K fd_u_law_is_triple ["actual", "due"] [] := F_u_law_is_triple.bindsN fun _ _ _ _ _ _ us hl => match us, hl with | [_, _], _ => rfl
  obtain ⟨fd_u_law_residue, F_u_law_residue⟩ := T.d_u_law_residue
  have G_u_law_residue := ok_u_law_residue (P := P) (w := w) (base := base) T F_u_law_residue
  have b_u_law_residue : Binds K fd_u_law_residue ["cell", "prime"] [] := F_u_law_residue.bindsN fun _ _ _ _ _ _ us hl => match us, hl with | [_, _], _ => rfl
  obtain ⟨fd_u_law_singular, F_u_law_singular⟩ := T.d_u_law_singular
  have G_u_law_singular := ok_u_law_singular (P := P) (w := w) (base := base) T F_u_law_singular
  have b_u_law_singular : Binds K fd_u_law_singular ["prime", "a", "b"] [] := F_u_law_singular.bindsN fun _ _ _ _ _ _ us hl => match us, hl with | [_, _, _], _ => rfl
  obtain ⟨fd_u_law_sum, F_u_law_sum⟩ := T.d_u_law_sum
  have G_u_law_sum := ok_u_law_sum (P := P) (w := w) (base := base) T F_u_law_sum
  have b_u_law_sum : Binds K fd_u_law_sum ["prime", "a", "first", "second"] [] := F_u_law_sum.bindsN fun _ _ _ _ _ _ us hl => match us, hl with | [_, _, _, _], _ => rfl
  obtain ⟨fd_u_law_triple, F_u_law_triple⟩ := T.d_u_law_triple
  have G_u_law_triple := ok_u_law_triple (P := P) (w := w) (base := base) T F_u_law_triple
  have b_u_law_triple : Binds K fd_u_law_triple ["point", "scale", "prime", "cell"] [] := F_u_law_triple.bindsN fun _ _ _ _ _ _ us hl => match us, hl with | [_, _, _, _], _ => rfl
  obtain ⟨fd_add_jacobian, F_add_jacobian⟩ := T.d_add_jacobian
  have G_add_jacobian := ok_add_jacobian (P := P) (w := w) (base := base) T F_add_jacobian
  have b_add_jacobian : Binds K fd_add_jacobian ["curve", "first", "second"] [] := F_add_jacobian.bindsN fun _ _ _ _ _ _ us hl => match us, hl with | [_, _, _], _ => rfl
  obtain ⟨fd_double_jacobian, F_double_jacobian⟩ := T.d_double_jacobian
  have G_double_jacobian := ok_double_jacobian (P := P) (w := w) (base := base) T F_double_jacobian
  have b_double_jacobian : Binds K fd_double_jacobian ["curve", "triple"] [] := F_double_jacobian.bindsN fun _ _ _ _ _ _ us hl => match us, hl with | [_, _], _ => rfl
  obtain ⟨fd_from_jacobian, F_from_jacobian⟩ := T.d_from_jacobian
  have G_from_jacobian := ok_from_jacobian (P := P) (w := w) (base := base) T F_from_jacobian
  have b_from_jacobian : Binds K fd_from_jacobian ["curve", "triple"] [] := F_from_jacobian.bindsN fun _ _ _ _ _ _ us hl => match us, hl with | [_, _], _ => rfl
  obtain ⟨fd_same_point, F_same_point⟩ := T.d_same_point
  have G_same_point := ok_same_point (P := P) (w := w) (base := base) T F_same_point
  have b_same_point : Binds K fd_same_point ["curve", "first", "second"] [] := F_same_point.bindsN fun _ _ _ _ _ _ us hl => match us, hl with | [_, _, _], _ => rfl
  obtain ⟨fd_to_jacobian, F_to_jacobian⟩ := T.d_to_jacobian
  have G_to_jacobian := ok_to_jacobian (P := P) (w := w) (base := base) T F_to_jacobian
  have b_to_jacobian : Binds K fd_to_jacobian ["point"] [] := F_to_jacobian.bindsN fun _ _ _ _ _ _ us hl => match us, hl with | [_], _ => rfl
  refine fn_ok F sc_law (fun y => rfl) (fun cdv A outer s H E hr => ?_)
  refine ⟨_, (pss_cons (ps_set (i := 1) sc_law.nd rfl (Or.inr rfl) (pe_callS G_u_law_curve_prime (hr.mono (by decide)) rfl T.g_u_law_curve_prime F_u_law_curve_prime.kp b_u_law_curve_prime (fun σ => passAt (takes_of rfl rfl rfl rfl) σ) (pa_cons (pe_callS G_u_law_cell (hr.mono (by decide)) rfl T.g_u_law_cell F_u_law_cell.kp b_u_law_cell (fun σ => passAt (takes_of rfl rfl rfl rfl) σ) (pa_cons (pv 0) (pa_cons pe_int pa_nil))) pa_nil))) (pss_cons (ps_asg (pe_callS G_u_law_curve_and_points (hr.mono (by decide)) rfl T.g_u_law_curve_and_points F_u_law_curve_and_points.kp b_u_law_curve_and_points (fun σ => passAt (takes_of rfl rfl rfl rfl) σ) (pa_cons (pv 0) (pa_cons pe_int (pa_cons (pv 1) pa_nil)))) (pg_tup rfl (pgs_cons (pg_name (i := 2) sc_law.nd rfl (Or.inl rfl)) (pgs_cons (pg_name (i := 3) sc_law.nd rfl (Or.inl rfl)) (pgs_cons (pg_name (i := 4) sc_law.nd rfl (Or.inl rfl)) (pgs_cons (pg_name (i := 5) sc_law.nd rfl (Or.inl rfl)) pgs_nil)))))) (pss_cons (ps_if (pt_val (pe_callS G_u_law_singular (hr.mono (by decide)) rfl T.g_u_law_singular F_u_law_singular.kp b_u_law_singular (fun σ => passAt (takes_of rfl rfl rfl rfl) σ) (pa_cons (pv 1) (pa_cons (pv 2) (pa_cons (pv 3) pa_nil))))) (pss_one (ps_ret pe_bl)) pss_nil) (pss_cons (ps_set (i := 6) sc_law.nd rfl (Or.inl rfl) (pe_makeQ T.mk_Curve G_Curve_init (hr.mono (by decide)) rfl T.g_Curve b_Curve_init (fun σ => passAt (takes_of rfl rfl rfl rfl) σ) (pa_cons (pv 1) (pa_cons (pv 2) (pa_cons (pv 3) pa_nil))))) (pss_cons (ps_set (i := 7) sc_law.nd rfl (Or.inl rfl) (pe_lst (pa_cons (pv 4) (pa_cons (pv 5) (pa_cons (pe_tup (pa_cons (pe_ix (cr_ixT rfl) (pv 4) pe_int (fun _ _ => rfl)) (pa_cons (pe_op op_mod (pe_un un_neg (pe_ix (cr_ixT rfl) (pv 4) pe_int (fun _ _ => rfl))) (pv 1)) pa_nil))) (pa_cons (pe_callS G_u_law_add (hr.mono (by decide)) rfl T.g_u_law_add F_u_law_add.kp b_u_law_add (fun σ => passAt (takes_of rfl rfl rfl rfl) σ) (pa_cons (pv 1) (pa_cons (pv 2) (pa_cons (pv 4) (pa_cons (pv 5) pa_nil))))) (pa_cons pe_non pa_nil))))))) (pss_cons (ps_set (i := 8) sc_law.nd rfl (Or.inl rfl) (pe_op op_mod (pe_callB call_abs (by rfl) T.n_abs (by decide +kernel) (pa_cons (pe_callS G_u_law_cell (hr.mono (by decide)) rfl T.g_u_law_cell F_u_law_cell.kp b_u_law_cell (fun σ => passAt (takes_of rfl rfl rfl rfl) σ) (pa_cons (pv 0) (pa_cons pe_int pa_nil))) pa_nil)) pe_int)) (pss_cons (ps_set (i := 9) sc_law.nd rfl (Or.inl rfl) (pe_op op_mod (pe_op op_fdiv (pe_callB call_abs (by rfl) T.n_abs (by decide +kernel) (pa_cons (pe_callS G_u_law_cell (hr.mono (by decide)) rfl T.g_u_law_cell F_u_law_cell.kp b_u_law_cell (fun σ => passAt (takes_of rfl rfl rfl rfl) σ) (pa_cons (pv 0) (pa_cons pe_int pa_nil))) pa_nil)) pe_int) pe_int)) (pss_cons (ps_setLc (i := 10) (own := [("k", 16)]) rfl sc_law.nd rfl rfl (sw_true rfl rfl rfl (by decide +kernel)) (pi_range1 rfl T.n_range (pa_cons pe_int pa_nil)) (blkOk_by (own := [("k", 16)]) (N := ["script", "prime", "a", "b", "first", "second", "curve", "points", "one", "other", "scales", "left", "right", "twice", "total", "same", "k"]) (sc := defScope s_law) (by decide +kernel)) (fun _ _ _ _ _ => (pg_name (i := 16) sc_law.nd rfl (Or.inl rfl))) (fun _ _ _ _ _ => pts_nil) (fun _ _ _ _ _ => (pe_op op_add pe_int (pe_call G_u_law_residue (hr.mono (by decide)) rfl T.g_u_law_residue F_u_law_residue.kp b_u_law_residue .nil passL (pa_cons (pe_call G_u_law_cell (hr.mono (by decide)) rfl T.g_u_law_cell F_u_law_cell.kp b_u_law_cell .nil passL (pa_cons (pv 0) (pa_cons (pe_op op_add pe_int (pv 16)) pa_nil))) (pa_cons (pe_op op_sub (pv 1) pe_int) pa_nil)))))) (pss_cons (ps_set (i := 11) sc_law.nd rfl (Or.inl rfl) (pe_callS G_u_law_triple (hr.mono (by decide)) rfl T.g_u_law_triple F_u_law_triple.kp b_u_law_triple (fun σ => passAt (takes_of rfl rfl rfl rfl) σ) (pa_cons (pe_ix (cr_ixL rfl) (pv 7) (pv 8) (fun _ _ => rfl)) (pa_cons (pe_ix (cr_ixL rfl) (pv 10) pe_int (fun _ _ => rfl)) (pa_cons (pv 1) (pa_cons (pe_callS G_u_law_cell (hr.mono (by decide)) rfl T.g_u_law_cell F_u_law_cell.kp b_u_law_cell (fun σ => passAt (takes_of rfl rfl rfl rfl) σ) (pa_cons (pv 0) (pa_cons pe_int pa_nil))) pa_nil)))))) (pss_cons (ps_set (i := 12) sc_law.nd rfl (Or.inl rfl) (pe_callS G_u_law_triple (hr.mono (by decide)) rfl T.g_u_law_triple F_u_law_triple.kp b_u_law_triple (fun σ => passAt (takes_of rfl rfl rfl rfl) σ) (pa_cons (pe_ix (cr_ixL rfl) (pv 7) (pv 9) (fun _ _ => rfl)) (pa_cons (pe_ix (cr_ixL rfl) (pv 10) pe_int (fun _ _ => rfl)) (pa_cons (pv 1) (pa_cons (pe_callS G_u_law_cell (hr.mono (by decide)) rfl T.g_u_law_cell F_u_law_cell.kp b_u_law_cell (fun σ => passAt (takes_of rfl rfl rfl rfl) σ) (pa_cons (pv 0) (pa_cons pe_int pa_nil))) pa_nil)))))) (pss_cons (ps_if (PW.pt (pw_and (pt_cmpR (op_neD (Room.units hr)) (pe_callS G_to_jacobian (hr.mono (by decide)) rfl T.g_to_jacobian F_to_jacobian.kp b_to_jacobian (fun σ => passAt (takes_of rfl rfl rfl rfl) σ) (pa_cons (pe_ix (cr_ixL rfl) (pv 7) (pv 8) (fun _ _ => rfl)) pa_nil)) (pe_callS G_u_law_triple (hr.mono (by decide)) rfl T.g_u_law_triple F_u_law_triple.kp b_u_law_triple (fun σ => passAt (takes_of rfl rfl rfl rfl) σ) (pa_cons (pe_ix (cr_ixL rfl) (pv 7) (pv 8) (fun _ _ => rfl)) (pa_cons pe_int (pa_cons (pv 1) (pa_cons pe_int pa_nil))))) (nomark _)) (pw_and1 (pt_cmpR op_notN (pe_ix (cr_ixL rfl) (pv 7) (pv 8) (fun _ _ => rfl)) pe_non (nomark _))))) (pss_one (ps_ret pe_bl)) pss_nil) (pss_cons (ps_if (PW.pt (pw_or (pt_cmpR (op_neD (Room.units hr)) (pe_callS G_to_jacobian (hr.mono (by decide)) rfl T.g_to_jacobian F_to_jacobian.kp b_to_jacobian (fun σ => passAt (takes_of rfl rfl rfl rfl) σ) (pa_cons pe_non pa_nil)) (pe_tup (pa_cons pe_int (pa_cons pe_int (pa_cons pe_int pa_nil)))) (nomark _)) (pw_or1 (pt_cmpR (op_neD (Room.units hr)) (pe_callS G_from_jacobian (hr.mono (by decide)) rfl T.g_from_jacobian F_from_jacobian.kp b_from_jacobian (fun σ => passAt (takes_of rfl rfl rfl rfl) σ) (pa_cons (pv 6) (pa_cons (pv 11) pa_nil))) (pe_ix (cr_ixL rfl) (pv 7) (pv 8) (fun _ _ => rfl)) (nomark _))))) (pss_one (ps_ret pe_bl)) pss_nil) (pss_cons (ps_set (i := 13) sc_law.nd rfl (Or.inl rfl) (pe_callS G_double_jacobian (hr.mono (by decide)) rfl T.g_double_jacobian F_double_jacobian.kp b_double_jacobian (fun σ => passAt (takes_of rfl rfl rfl rfl) σ) (pa_cons (pv 6) (pa_cons (pv 11) pa_nil)))) (pss_cons (ps_set (i := 14) sc_law.nd rfl (Or.inl rfl) (pe_callS G_add_jacobian (hr.mono (by decide)) rfl T.g_add_jacobian F_add_jacobian.kp b_add_jacobian (fun σ => passAt (takes_of rfl rfl rfl rfl) σ) (pa_cons (pv 6) (pa_cons (pv 11) (pa_cons (pv 12) pa_nil))))) (pss_cons (ps_if (PW.pt (pw_or (pt_not (pt_val (pe_callS G_u_law_is_triple (hr.mono (by decide)) rfl T.g_u_law_is_triple F_u_law_is_triple.kp b_u_law_is_triple (fun σ => passAt (takes_of rfl rfl rfl rfl) σ) (pa_cons (pv 13) (pa_cons (pe_callS G_u_law_double (hr.mono (by decide)) rfl T.g_u_law_double F_u_law_double.kp b_u_law_double (fun σ => passAt (takes_of rfl rfl rfl rfl) σ) (pa_cons (pv 1) (pa_cons (pv 2) (pa_cons (pv 11) pa_nil)))) pa_nil))))) (pw_or1 (pt_not (pt_val (pe_callS G_u_law_is_triple (hr.mono (by decide)) rfl T.g_u_law_is_triple F_u_law_is_triple.kp b_u_law_is_triple (fun σ => passAt (takes_of rfl rfl rfl rfl) σ) (pa_cons (pv 14) (pa_cons (pe_callS G_u_law_sum (hr.mono (by decide)) rfl T.g_u_law_sum F_u_law_sum.kp b_u_law_sum (fun σ => passAt (takes_of rfl rfl rfl rfl) σ) (pa_cons (pv 1) (pa_cons (pv 2) (pa_cons (pv 11) (pa_cons (pv 12) pa_nil))))) pa_nil)))))))) (pss_one (ps_ret pe_bl)) pss_nil) (pss_cons (ps_if (pt_cmpR (op_neD (Room.units hr)) (pe_callS G_from_jacobian (hr.mono (by decide)) rfl T.g_from_jacobian F_from_jacobian.kp b_from_jacobian (fun σ => passAt (takes_of rfl rfl rfl rfl) σ) (pa_cons (pv 6) (pa_cons (pv 13) pa_nil))) (pe_callS G_u_law_add (hr.mono (by decide)) rfl T.g_u_law_add F_u_law_add.kp b_u_law_add (fun σ => passAt (takes_of rfl rfl rfl rfl) σ) (pa_cons (pv 1) (pa_cons (pv 2) (pa_cons (pe_ix (cr_ixL rfl) (pv 7) (pv 8) (fun _ _ => rfl)) (pa_cons (pe_ix (cr_ixL rfl) (pv 7) (pv 8) (fun _ _ => rfl)) pa_nil))))) (nomark _)) (pss_one (ps_ret pe_bl)) pss_nil) (pss_cons (ps_if (pt_cmpR (op_neD (Room.units hr)) (pe_callS G_from_jacobian (hr.mono (by decide)) rfl T.g_from_jacobian F_from_jacobian.kp b_from_jacobian (fun σ => passAt (takes_of rfl rfl rfl rfl) σ) (pa_cons (pv 6) (pa_cons (pv 14) pa_nil))) (pe_callS G_u_law_add (hr.mono (by decide)) rfl T.g_u_law_add F_u_law_add.kp b_u_law_add (fun σ => passAt (takes_of rfl rfl rfl rfl) σ) (pa_cons (pv 1) (pa_cons (pv 2) (pa_cons (pe_ix (cr_ixL rfl) (pv 7) (pv 8) (fun _ _ => rfl)) (pa_cons (pe_ix (cr_ixL rfl) (pv 7) (pv 9) (fun _ _ => rfl)) pa_nil))))) (nomark _)) (pss_one (ps_ret pe_bl)) pss_nil) (pss_cons (ps_set (i := 15) sc_law.nd rfl (Or.inl rfl) (pe_callS G_same_point (hr.mono (by decide)) rfl T.g_same_point F_same_point.kp b_same_point (fun σ => passAt (takes_of rfl rfl rfl rfl) σ) (pa_cons (pv 6) (pa_cons (pv 11) (pa_cons (pv 12) pa_nil))))) (pss_cons (ps_if (PW.pt (pw_or (pt_not (pt_val (pe_callB call_isi (by rfl) T.n_isinstance (by decide +kernel) (pa_cons (pv 15) (pa_cons (pe_bltn (v := .ty "bool") (by rfl) T.n_bool (by decide +kernel) rfl) pa_nil))))) (pw_or1 (pt_cmpR op_ne (pv 15) (pe_cmpR (op_eqD (Room.units hr)) (pe_ix (cr_ixL rfl) (pv 7) (pv 8) (fun _ _ => rfl)) (pe_ix (cr_ixL rfl) (pv 7) (pv 9) (fun _ _ => rfl)) (nomark _)) (nomark _))))) (pss_one (ps_ret pe_bl)) pss_nil) (pss_one (ps_ret (pe_and (pe_cmpR op_isBl (pe_callS G_same_point (hr.mono (by decide)) rfl T.g_same_point F_same_point.kp b_same_point (fun σ => passAt (takes_of rfl rfl rfl rfl) σ) (pa_cons (pv 6) (pa_cons (pv 11) (pa_cons (pe_callS G_to_jacobian (hr.mono (by decide)) rfl T.g_to_jacobian F_to_jacobian.kp b_to_jacobian (fun σ => passAt (takes_of rfl rfl rfl rfl) σ) (pa_cons (pe_ix (cr_ixL rfl) (pv 7) (pv 8) (fun _ _ => rfl)) pa_nil)) pa_nil)))) pe_bl (nomark _)) (pe_one (pe_cmpR op_isBl (pe_callS G_same_point (hr.mono (by decide)) rfl T.g_same_point F_same_point.kp b_same_point (fun σ => passAt (takes_of rfl rfl rfl rfl) σ) (pa_cons (pv 6) (pa_cons (pv 14) (pa_cons (pe_callS G_add_jacobian (hr.mono (by decide)) rfl T.g_add_jacobian F_add_jacobian.kp b_add_jacobian (fun σ => passAt (takes_of rfl rfl rfl rfl) σ) (pa_cons (pv 6) (pa_cons (pv 12) (pa_cons (pv 11) pa_nil)))) pa_nil)))) pe_bl (nomark _))))))))))))))))))))))))), ?_⟩
  rintro ⟨script_, ⟨⟩⟩ F0 H0 Q KP L
  show Blk K F0 H0 KP _ [some (.im (toD script_)), none, none, none, none, none, none, none, none, none, none, none, none, none, none, none, none] (m_law script_)
  unfold m_law
  have hs_ := ((ev_call (f := (fun (p : Int × Unit) => m_u_law_curve_prime p.1)) (ea_cons (ev_call (f := (fun (p : (List Int) × Int × Unit) => m_u_law_cell p.1 p.2.1)) (ea_cons (ev_var (i := 0) (x := script_) rfl) (ea_cons (ev_int (i := 0)) ea_nil))) ea_nil)) : EvX K (W0 E) [some (.im (toD script_)), none, none, none, none, none, none, none, none, none, none, none, none, none, none, none, none] _ _)
  refine blk_seq (blk_set (i := 1) L trivial hs_ fun prime_ => ?_)
  show Blk _ _ _ _ _ [some (.im (toD script_)), some (.im (toD prime_)), none, none, none, none, none, none, none, none, none, none, none, none, none, none, none] _
  try refine Blk.nx ?_
  have hs_ := ((ev_call (f := (fun (p : (List Int) × Int × Int × Unit) => m_u_law_curve_and_points p.1 p.2.1 p.2.2.1)) (ea_cons (ev_var (i := 0) (x := script_) rfl) (ea_cons (ev_int (i := 1)) (ea_cons (ev_var (i := 1) (x := prime_) rfl) ea_nil)))) : EvX K (W0 E) [some (.im (toD script_)), some (.im (toD prime_)), none, none, none, none, none, none, none, none, none, none, none, none, none, none, none] _ _)
  refine blk_seq (blk_asg L trivial hs_ (fun _ => (gx_tup (gxs_cons gx_name (gxs_cons gx_name (gxs_cons gx_name (gxs_cons gx_name gxs_nil)))) rfl)) fun u1149 => ?_)
  show Blk _ _ _ _ _ [some (.im (toD script_)), some (.im (toD prime_)), some (.im (toD u1149.a)), some (.im (toD u1149.b)), some (.im (toD u1149.c)), some (.im (toD u1149.e)), none, none, none, none, none, none, none, none, none, none, none] ((fun (a_ : Int) (b_ : Int) (first_ : (T2 Int Int)) (second_ : (T2 Int Int)) => _) u1149.a u1149.b u1149.c u1149.e)
  generalize u1149.a = a_
  generalize u1149.b = b_
  generalize u1149.c = first_
  generalize u1149.e = second_
  show Blk _ _ _ _ _ [some (.im (toD script_)), some (.im (toD prime_)), some (.im (toD a_)), some (.im (toD b_)), some (.im (toD first_)), some (.im (toD second_)), none, none, none, none, none, none, none, none, none, none, none] _
  try refine Blk.nx ?_
  have ht_ := ((et_B (ev_call (f := (fun (p : Int × Int × Int × Unit) => m_u_law_singular p.1 p.2.1 p.2.2.1)) (ea_cons (ev_var (i := 1) (x := prime_) rfl) (ea_cons (ev_var (i := 2) (x := a_) rfl) (ea_cons (ev_var (i := 3) (x := b_) rfl) ea_nil))))) : EvT K (W0 E) [some (.im (toD script_)), some (.im (toD prime_)), some (.im (toD a_)), some (.im (toD b_)), some (.im (toD first_)), some (.im (toD second_)), none, none, none, none, none, none, none, none, none, none, none] _ _)
  refine blk_seq (blk_if2 L trivial ht_ ?_ ?_)
  · have hr_ := ((ev_bl (b := true)) : EvX K (W0 E) [some (.im (toD script_)), some (.im (toD prime_)), some (.im (toD a_)), some (.im (toD b_)), some (.im (toD first_)), some (.im (toD second_)), none, none, none, none, none, none, none, none, none, none, none] _ _)
    exact blk_ret L trivial hr_
  · refine blk_nil ?_
    try refine Blk.nx ?_
    have hs_ := ((ev_make (c := "Curve") (f := (fun (p : Int × Int × Int × Unit) => m_Curve_init p.1 p.2.1 p.2.2.1)) (ea_cons (ev_var (i := 1) (x := prime_) rfl) (ea_cons (ev_var (i := 2) (x := a_) rfl) (ea_cons (ev_var (i := 3) (x := b_) rfl) ea_nil)))) : EvX K (W0 E) [some (.im (toD script_)), some (.im (toD prime_)), some (.im (toD a_)), some (.im (toD b_)), some (.im (toD first_)), some (.im (toD second_)), none, none, none, none, none, none, none, none, none, none, none] _ _)
    refine blk_seq (blk_set (i := 6) L trivial hs_ fun curve_ => ?_)
    show Blk _ _ _ _ _ [some (.im (toD script_)), some (.im (toD prime_)), some (.im (toD a_)), some (.im (toD b_)), some (.im (toD first_)), some (.im (toD second_)), some (.im (toD curve_)), none, none, none, none, none, none, none, none, none, none] _
    try refine Blk.nx ?_
    have hs_ := ((ev_ofN (en_lst (f := (fun y => ([y.1, y.2.1, y.2.2.1, y.2.2.2.1, y.2.2.2.2.1] : List (Option (T2 Int Int))))) (ea_cons (ev_as (ev_var (i := 4) (x := first_) rfl) some (fun _ => rfl) rfl) (ea_cons (ev_as (ev_var (i := 5) (x := second_) rfl) some (fun _ => rfl) rfl) (ea_cons (ev_as (ev_tup (f := (fun y => T2.mk y.1 y.2.1)) (ea_cons (ev_ixTC (i := 0) (f := fun x => x.a) (ev_var (i := 4) (x := first_) rfl) (fun x => ⟨_, rfl, rfl⟩)) (ea_cons (ev_op (opx_I (C := (fun _ j => 0 < j)) (g := fun i j => i % j)) mild_need (ev_un (g := fun i => -i) (ev_ixTC (i := 1) (f := fun x => x.b) (ev_var (i := 4) (x := first_) rfl) (fun x => ⟨_, rfl, rfl⟩))) (ev_var (i := 1) (x := prime_) rfl)) ea_nil)) (fun _ => rfl) (fun _ => by show 2 ≤ 100000; decide)) some (fun _ => rfl) rfl) (ea_cons (ev_call (f := (fun (p : Int × Int × (Option (T2 Int Int)) × (Option (T2 Int Int)) × Unit) => m_u_law_add p.1 p.2.1 p.2.2.1 p.2.2.2.1)) (ea_cons (ev_var (i := 1) (x := prime_) rfl) (ea_cons (ev_var (i := 2) (x := a_) rfl) (ea_cons (ev_as (ev_var (i := 4) (x := first_) rfl) some (fun _ => rfl) rfl) (ea_cons (ev_as (ev_var (i := 5) (x := second_) rfl) some (fun _ => rfl) rfl) ea_nil))))) (ea_cons (ev_noneO (α := (T2 Int Int))) ea_nil))))) (fun _ => rfl) (fun _ => by show 5 ≤ 100000; decide))) : EvX K (W0 E) [some (.im (toD script_)), some (.im (toD prime_)), some (.im (toD a_)), some (.im (toD b_)), some (.im (toD first_)), some (.im (toD second_)), some (.im (toD curve_)), none, none, none, none, none, none, none, none, none, none] _ _)
    refine blk_seq (blk_set (i := 7) L trivial hs_ fun points_ => ?_)
    show Blk _ _ _ _ _ [some (.im (toD script_)), some (.im (toD prime_)), some (.im (toD a_)), some (.im (toD b_)), some (.im (toD first_)), some (.im (toD second_)), some (.im (toD curve_)), some (.im (toD points_)), none, none, none, none, none, none, none, none, none] _
    try refine Blk.nx ?_
    have hs_ := ((ev_opI (C := (fun _ j => 0 < j)) (g := fun i j => i % j) (fun x y _ h => by cases h; (show (0 : Int) < _; decide)) (ev_cb cx_abs (fun _ _ h => nomatch h) (ea_cons (ev_call (f := (fun (p : (List Int) × Int × Unit) => m_u_law_cell p.1 p.2.1)) (ea_cons (ev_var (i := 0) (x := script_) rfl) (ea_cons (ev_int (i := 6)) ea_nil))) ea_nil)) (ev_int (i := 5))) : EvX K (W0 E) [some (.im (toD script_)), some (.im (toD prime_)), some (.im (toD a_)), some (.im (toD b_)), some (.im (toD first_)), some (.im (toD second_)), some (.im (toD curve_)), some (.im (toD points_)), none, none, none, none, none, none, none, none, none] _ _)
    refine blk_seq (blk_set (i := 8) L trivial hs_ fun one_ => ?_)
    show Blk _ _ _ _ _ [some (.im (toD script_)), some (.im (toD prime_)), some (.im (toD a_)), some (.im (toD b_)), some (.im (toD first_)), some (.im (toD second_)), some (.im (toD curve_)), some (.im (toD points_)), some (.im (toD one_)), none, none, none, none, none, none, none, none] _
    try refine Blk.nx ?_
    have hs_ := ((ev_opI (C := (fun _ j => 0 < j)) (g := fun i j => i % j) (fun x y _ h => by cases h; (show (0 : Int) < _; decide)) (ev_opI (C := CDiv) (g := fun i j => i / j) (fun x y _ h => by cases h; exact ⟨by decide, by decide⟩) (ev_cb cx_abs (fun _ _ h => nomatch h) (ea_cons (ev_call (f := (fun (p : (List Int) × Int × Unit) => m_u_law_cell p.1 p.2.1)) (ea_cons (ev_var (i := 0) (x := script_) rfl) (ea_cons (ev_int (i := 6)) ea_nil))) ea_nil)) (ev_int (i := 5))) (ev_int (i := 5))) : EvX K (W0 E) [some (.im (toD script_)), some (.im (toD prime_)), some (.im (toD a_)), some (.im (toD b_)), some (.im (toD first_)), some (.im (toD second_)), some (.im (toD curve_)), some (.im (toD points_)), some (.im (toD one_)), none, none, none, none, none, none, none, none] _ _)
    refine blk_seq (blk_set (i := 9) L trivial hs_ fun other_ => ?_)
    show Blk _ _ _ _ _ [some (.im (toD script_)), some (.im (toD prime_)), some (.im (toD a_)), some (.im (toD b_)), some (.im (toD first_)), some (.im (toD second_)), some (.im (toD curve_)), some (.im (toD points_)), some (.im (toD one_)), some (.im (toD other_)), none, none, none, none, none, none, none] _
    try refine Blk.nx ?_
    have hs_ := ((ev_ofN (ev_comp (tst := fun (x1217 : Int) => Res.ok true) (el := fun (x1217 : Int) => ((Res.ok (1 : Int))).bind fun (t1232 : Int) => ((((((Res.ok script_)).bind fun a1221 => ((((Res.ok (7 : Int))).bind fun (t1218 : Int) => ((Res.ok x1217)).bind fun (t1219 : Int) => Res.ok (t1218 + t1219)).bind fun a1223 => (Res.ok ()).bind fun a1224 => Res.ok (a1223, a1224)).bind fun a1222 => Res.ok (a1221, a1222)).bind fun p1220 => (m_u_law_cell p1220.1 p1220.2.1).noexc).bind fun a1228 => ((((Res.ok prime_)).bind fun (t1225 : Int) => ((Res.ok (1 : Int))).bind fun (t1226 : Int) => Res.ok (t1225 - t1226)).bind fun a1230 => (Res.ok ()).bind fun a1231 => Res.ok (a1230, a1231)).bind fun a1229 => Res.ok (a1228, a1229)).bind fun p1227 => (m_u_law_residue p1227.1 p1227.2.1).noexc).bind fun (t1233 : Int) => Res.ok (t1232 + t1233)) (ws := [16]) (ei_range1 (ev_int (i := 2))) (fun _ => gx_name) (fun x1217 => et_yes) (fun x1217 => ((ev_op (opx_I0 (g := fun i j => i + j)) mild_ok (ev_int (i := 1)) (ev_call0 (f := (fun (p : Int × Int × Unit) => m_u_law_residue p.1 p.2.1)) (ea_cons (ev_call0 (f := (fun (p : (List Int) × Int × Unit) => m_u_law_cell p.1 p.2.1)) (ea_cons (ev_var (i := 0) (x := script_) rfl) (ea_cons (ev_op (opx_I0 (g := fun i j => i + j)) mild_ok (ev_int (i := 7)) (ev_var (i := 16) (x := x1217) rfl)) ea_nil))) (ea_cons (ev_op (opx_I0 (g := fun i j => i - j)) mild_ok (ev_var (i := 1) (x := prime_) rfl) (ev_int (i := 1))) ea_nil)))) : EvX K WT [some (.im (toD script_)), some (.im (toD prime_)), some (.im (toD a_)), some (.im (toD b_)), some (.im (toD first_)), some (.im (toD second_)), some (.im (toD curve_)), some (.im (toD points_)), some (.im (toD one_)), some (.im (toD other_)), none, none, none, none, none, none, some (.im (toD x1217))] _ _)))) : EvX K (W0 E) [some (.im (toD script_)), some (.im (toD prime_)), some (.im (toD a_)), some (.im (toD b_)), some (.im (toD first_)), some (.im (toD second_)), some (.im (toD curve_)), some (.im (toD points_)), some (.im (toD one_)), some (.im (toD other_)), none, none, none, none, none, none, none] _ _)
    refine blk_seq (blk_set (i := 10) L trivial hs_ fun scales_ => ?_)
    show Blk _ _ _ _ _ [some (.im (toD script_)), some (.im (toD prime_)), some (.im (toD a_)), some (.im (toD b_)), some (.im (toD first_)), some (.im (toD second_)), some (.im (toD curve_)), some (.im (toD points_)), some (.im (toD one_)), some (.im (toD other_)), some (.im (toD scales_)), none, none, none, none, none, none] _
    try refine Blk.nx ?_
    have hs_ := ((ev_call (f := (fun (p : (Option (T2 Int Int)) × Int × Int × Int × Unit) => m_u_law_triple p.1 p.2.1 p.2.2.1 p.2.2.2.1)) (ea_cons (ev_op opx_ixL (fun x y => idx_mild x y) (ev_var (i := 7) (x := points_) rfl) (ev_var (i := 8) (x := one_) rfl)) (ea_cons (ev_op opx_ixL (fun x y => idx_mild x y) (ev_var (i := 10) (x := scales_) rfl) (ev_int (i := 0))) (ea_cons (ev_var (i := 1) (x := prime_) rfl) (ea_cons (ev_call (f := (fun (p : (List Int) × Int × Unit) => m_u_law_cell p.1 p.2.1)) (ea_cons (ev_var (i := 0) (x := script_) rfl) (ea_cons (ev_int (i := 9)) ea_nil))) ea_nil))))) : EvX K (W0 E) [some (.im (toD script_)), some (.im (toD prime_)), some (.im (toD a_)), some (.im (toD b_)), some (.im (toD first_)), some (.im (toD second_)), some (.im (toD curve_)), some (.im (toD points_)), some (.im (toD one_)), some (.im (toD other_)), some (.im (toD scales_)), none, none, none, none, none, none] _ _)
    refine blk_seq (blk_set (i := 11) L trivial hs_ fun left_ => ?_)
    show Blk _ _ _ _ _ [some (.im (toD script_)), some (.im (toD prime_)), some (.im (toD a_)), some (.im (toD b_)), some (.im (toD first_)), some (.im (toD second_)), some (.im (toD curve_)), some (.im (toD points_)), some (.im (toD one_)), some (.im (toD other_)), some (.im (toD scales_)), some (.im (toD left_)), none, none, none, none, none] _
    try refine Blk.nx ?_
    have hs_ := ((ev_call (f := (fun (p : (Option (T2 Int Int)) × Int × Int × Int × Unit) => m_u_law_triple p.1 p.2.1 p.2.2.1 p.2.2.2.1)) (ea_cons (ev_op opx_ixL (fun x y => idx_mild x y) (ev_var (i := 7) (x := points_) rfl) (ev_var (i := 9) (x := other_) rfl)) (ea_cons (ev_op opx_ixL (fun x y => idx_mild x y) (ev_var (i := 10) (x := scales_) rfl) (ev_int (i := 1))) (ea_cons (ev_var (i := 1) (x := prime_) rfl) (ea_cons (ev_call (f := (fun (p : (List Int) × Int × Unit) => m_u_law_cell p.1 p.2.1)) (ea_cons (ev_var (i := 0) (x := script_) rfl) (ea_cons (ev_int (i := 10)) ea_nil))) ea_nil))))) : EvX K (W0 E) [some (.im (toD script_)), some (.im (toD prime_)), some (.im (toD a_)), some (.im (toD b_)), some (.im (toD first_)), some (.im (toD second_)), some (.im (toD curve_)), some (.im (toD points_)), some (.im (toD one_)), some (.im (toD other_)), some (.im (toD scales_)), some (.im (toD left_)), none, none, none, none, none] _ _)
    refine blk_seq (blk_set (i := 12) L trivial hs_ fun right_ => ?_)
    show Blk _ _ _ _ _ [some (.im (toD script_)), some (.im (toD prime_)), some (.im (toD a_)), some (.im (toD b_)), some (.im (toD first_)), some (.im (toD second_)), some (.im (toD curve_)), some (.im (toD points_)), some (.im (toD one_)), some (.im (toD other_)), some (.im (toD scales_)), some (.im (toD left_)), some (.im (toD right_)), none, none, none, none] _
    try refine Blk.nx ?_
    have ht_ := ((et_and (et_test (ev_op opx_neD mild_need (ev_call (f := (fun (p : (Option (T2 Int Int)) × Unit) => m_to_jacobian p.1)) (ea_cons (ev_op opx_ixL (fun x y => idx_mild x y) (ev_var (i := 7) (x := points_) rfl) (ev_var (i := 8) (x := one_) rfl)) ea_nil)) (ev_call (f := (fun (p : (Option (T2 Int Int)) × Int × Int × Int × Unit) => m_u_law_triple p.1 p.2.1 p.2.2.1 p.2.2.2.1)) (ea_cons (ev_op opx_ixL (fun x y => idx_mild x y) (ev_var (i := 7) (x := points_) rfl) (ev_var (i := 8) (x := one_) rfl)) (ea_cons (ev_int (i := 1)) (ea_cons (ev_var (i := 1) (x := prime_) rfl) (ea_cons (ev_int (i := 0)) ea_nil))))))) (et_test (ev_op opx_notN mild_ok (ev_op opx_ixL (fun x y => idx_mild x y) (ev_var (i := 7) (x := points_) rfl) (ev_var (i := 8) (x := one_) rfl)) ev_non))) : EvT K (W0 E) [some (.im (toD script_)), some (.im (toD prime_)), some (.im (toD a_)), some (.im (toD b_)), some (.im (toD first_)), some (.im (toD second_)), some (.im (toD curve_)), some (.im (toD points_)), some (.im (toD one_)), some (.im (toD other_)), some (.im (toD scales_)), some (.im (toD left_)), some (.im (toD right_)), none, none, none, none] _ _)
    refine blk_seq (blk_if2 L trivial ht_ ?_ ?_)
    · have hr_ := ((ev_bl (b := false)) : EvX K (W0 E) [some (.im (toD script_)), some (.im (toD prime_)), some (.im (toD a_)), some (.im (toD b_)), some (.im (toD first_)), some (.im (toD second_)), some (.im (toD curve_)), some (.im (toD points_)), some (.im (toD one_)), some (.im (toD other_)), some (.im (toD scales_)), some (.im (toD left_)), some (.im (toD right_)), none, none, none, none] _ _)
      exact blk_ret L trivial hr_
    · refine blk_nil ?_
      try refine Blk.nx ?_
      have ht_ := ((et_or (et_test (ev_op opx_neD mild_need (ev_call (f := (fun (p : (Option (T2 Int Int)) × Unit) => m_to_jacobian p.1)) (ea_cons (ev_noneO (α := (T2 Int Int))) ea_nil)) (ev_tup (f := (fun y => T3.mk y.1 y.2.1 y.2.2.1)) (ea_cons (ev_int (i := 1)) (ea_cons (ev_int (i := 1)) (ea_cons (ev_int (i := 0)) ea_nil))) (fun _ => rfl) (fun _ => by show 3 ≤ 100000; decide)))) (et_test (ev_op opx_neD mild_need (ev_call (f := (fun (p : O_Curve × (T3 Int Int Int) × Unit) => m_from_jacobian p.1 p.2.1)) (ea_cons (ev_var (i := 6) (x := curve_) rfl) (ea_cons (ev_var (i := 11) (x := left_) rfl) ea_nil))) (ev_op opx_ixL (fun x y => idx_mild x y) (ev_var (i := 7) (x := points_) rfl) (ev_var (i := 8) (x := one_) rfl))))) : EvT K (W0 E) [some (.im (toD script_)), some (.im (toD prime_)), some (.im (toD a_)), some (.im (toD b_)), some (.im (toD first_)), some (.im (toD second_)), some (.im (toD curve_)), some (.im (toD points_)), some (.im (toD one_)), some (.im (toD other_)), some (.im (toD scales_)), some (.im (toD left_)), some (.im (toD right_)), none, none, none, none] _ _)
      refine blk_seq (blk_if2 L trivial ht_ ?_ ?_)
      · have hr_ := ((ev_bl (b := false)) : EvX K (W0 E) [some (.im (toD script_)), some (.im (toD prime_)), some (.im (toD a_)), some (.im (toD b_)), some (.im (toD first_)), some (.im (toD second_)), some (.im (toD curve_)), some (.im (toD points_)), some (.im (toD one_)), some (.im (toD other_)), some (.im (toD scales_)), some (.im (toD left_)), some (.im (toD right_)), none, none, none, none] _ _)
        exact blk_ret L trivial hr_
      · refine blk_nil ?_
        try refine Blk.nx ?_
        have hs_ := ((ev_call (f := (fun (p : O_Curve × (T3 Int Int Int) × Unit) => m_double_jacobian p.1 p.2.1)) (ea_cons (ev_var (i := 6) (x := curve_) rfl) (ea_cons (ev_var (i := 11) (x := left_) rfl) ea_nil))) : EvX K (W0 E) [some (.im (toD script_)), some (.im (toD prime_)), some (.im (toD a_)), some (.im (toD b_)), some (.im (toD first_)), some (.im (toD second_)), some (.im (toD curve_)), some (.im (toD points_)), some (.im (toD one_)), some (.im (toD other_)), some (.im (toD scales_)), some (.im (toD left_)), some (.im (toD right_)), none, none, none, none] _ _)
        refine blk_seq (blk_set (i := 13) L trivial hs_ fun twice_ => ?_)
        show Blk _ _ _ _ _ [some (.im (toD script_)), some (.im (toD prime_)), some (.im (toD a_)), some (.im (toD b_)), some (.im (toD first_)), some (.im (toD second_)), some (.im (toD curve_)), some (.im (toD points_)), some (.im (toD one_)), some (.im (toD other_)), some (.im (toD scales_)), some (.im (toD left_)), some (.im (toD right_)), some (.im (toD twice_)), none, none, none] _
        try refine Blk.nx ?_
        have hs_ := ((ev_call (f := (fun (p : O_Curve × (T3 Int Int Int) × (T3 Int Int Int) × Unit) => m_add_jacobian p.1 p.2.1 p.2.2.1)) (ea_cons (ev_var (i := 6) (x := curve_) rfl) (ea_cons (ev_var (i := 11) (x := left_) rfl) (ea_cons (ev_var (i := 12) (x := right_) rfl) ea_nil)))) : EvX K (W0 E) [some (.im (toD script_)), some (.im (toD prime_)), some (.im (toD a_)), some (.im (toD b_)), some (.im (toD first_)), some (.im (toD second_)), some (.im (toD curve_)), some (.im (toD points_)), some (.im (toD one_)), some (.im (toD other_)), some (.im (toD scales_)), some (.im (toD left_)), some (.im (toD right_)), some (.im (toD twice_)), none, none, none] _ _)
        refine blk_seq (blk_set (i := 14) L trivial hs_ fun total_ => ?_)
        show Blk _ _ _ _ _ [some (.im (toD script_)), some (.im (toD prime_)), some (.im (toD a_)), some (.im (toD b_)), some (.im (toD first_)), some (.im (toD second_)), some (.im (toD curve_)), some (.im (toD points_)), some (.im (toD one_)), some (.im (toD other_)), some (.im (toD scales_)), some (.im (toD left_)), some (.im (toD right_)), some (.im (toD twice_)), some (.im (toD total_)), none, none] _
        try refine Blk.nx ?_
        have ht_ := ((et_or (et_not (et_B (ev_call (f := (fun (p : D × (T3 Int Int Int) × Unit) => m_u_law_is_triple p.1 p.2.1)) (ea_cons (ev_as (ev_var (i := 13) (x := twice_) rfl) toD (fun _ => rfl) rfl) (ea_cons (ev_call (f := (fun (p : Int × Int × (T3 Int Int Int) × Unit) => m_u_law_double p.1 p.2.1 p.2.2.1)) (ea_cons (ev_var (i := 1) (x := prime_) rfl) (ea_cons (ev_var (i := 2) (x := a_) rfl) (ea_cons (ev_var (i := 11) (x := left_) rfl) ea_nil)))) ea_nil))))) (et_not (et_B (ev_call (f := (fun (p : D × (T3 Int Int Int) × Unit) => m_u_law_is_triple p.1 p.2.1)) (ea_cons (ev_as (ev_var (i := 14) (x := total_) rfl) toD (fun _ => rfl) rfl) (ea_cons (ev_call (f := (fun (p : Int × Int × (T3 Int Int Int) × (T3 Int Int Int) × Unit) => m_u_law_sum p.1 p.2.1 p.2.2.1 p.2.2.2.1)) (ea_cons (ev_var (i := 1) (x := prime_) rfl) (ea_cons (ev_var (i := 2) (x := a_) rfl) (ea_cons (ev_var (i := 11) (x := left_) rfl) (ea_cons (ev_var (i := 12) (x := right_) rfl) ea_nil))))) ea_nil)))))) : EvT K (W0 E) [some (.im (toD script_)), some (.im (toD prime_)), some (.im (toD a_)), some (.im (toD b_)), some (.im (toD first_)), some (.im (toD second_)), some (.im (toD curve_)), some (.im (toD points_)), some (.im (toD one_)), some (.im (toD other_)), some (.im (toD scales_)), some (.im (toD left_)), some (.im (toD right_)), some (.im (toD twice_)), some (.im (toD total_)), none, none] _ _)
        refine blk_seq (blk_if2 L trivial ht_ ?_ ?_)
        · have hr_ := ((ev_bl (b := false)) : EvX K (W0 E) [some (.im (toD script_)), some (.im (toD prime_)), some (.im (toD a_)), some (.im (toD b_)), some (.im (toD first_)), some (.im (toD second_)), some (.im (toD curve_)), some (.im (toD points_)), some (.im (toD one_)), some (.im (toD other_)), some (.im (toD scales_)), some (.im (toD left_)), some (.im (toD right_)), some (.im (toD twice_)), some (.im (toD total_)), none, none] _ _)
          exact blk_ret L trivial hr_
        · refine blk_nil ?_
          try refine Blk.nx ?_
          have ht_ := ((et_test (ev_op opx_neD mild_need (ev_call (f := (fun (p : O_Curve × (T3 Int Int Int) × Unit) => m_from_jacobian p.1 p.2.1)) (ea_cons (ev_var (i := 6) (x := curve_) rfl) (ea_cons (ev_var (i := 13) (x := twice_) rfl) ea_nil))) (ev_call (f := (fun (p : Int × Int × (Option (T2 Int Int)) × (Option (T2 Int Int)) × Unit) => m_u_law_add p.1 p.2.1 p.2.2.1 p.2.2.2.1)) (ea_cons (ev_var (i := 1) (x := prime_) rfl) (ea_cons (ev_var (i := 2) (x := a_) rfl) (ea_cons (ev_op opx_ixL (fun x y => idx_mild x y) (ev_var (i := 7) (x := points_) rfl) (ev_var (i := 8) (x := one_) rfl)) (ea_cons (ev_op opx_ixL (fun x y => idx_mild x y) (ev_var (i := 7) (x := points_) rfl) (ev_var (i := 8) (x := one_) rfl)) ea_nil))))))) : EvT K (W0 E) [some (.im (toD script_)), some (.im (toD prime_)), some (.im (toD a_)), some (.im (toD b_)), some (.im (toD first_)), some (.im (toD second_)), some (.im (toD curve_)), some (.im (toD points_)), some (.im (toD one_)), some (.im (toD other_)), some (.im (toD scales_)), some (.im (toD left_)), some (.im (toD right_)), some (.im (toD twice_)), some (.im (toD total_)), none, none] _ _)
          refine blk_seq (blk_if2 L trivial ht_ ?_ ?_)
          · have hr_ := ((ev_bl (b := false)) : EvX K (W0 E) [some (.im (toD script_)), some (.im (toD prime_)), some (.im (toD a_)), some (.im (toD b_)), some (.im (toD first_)), some (.im (toD second_)), some (.im (toD curve_)), some (.im (toD points_)), some (.im (toD one_)), some (.im (toD other_)), some (.im (toD scales_)), some (.im (toD left_)), some (.im (toD right_)), some (.im (toD twice_)), some (.im (toD total_)), none, none] _ _)
            exact blk_ret L trivial hr_
          · refine blk_nil ?_
            try refine Blk.nx ?_
            have ht_ := ((et_test (ev_op opx_neD mild_need (ev_call (f := (fun (p : O_Curve × (T3 Int Int Int) × Unit) => m_from_jacobian p.1 p.2.1)) (ea_cons (ev_var (i := 6) (x := curve_) rfl) (ea_cons (ev_var (i := 14) (x := total_) rfl) ea_nil))) (ev_call (f := (fun (p : Int × Int × (Option (T2 Int Int)) × (Option (T2 Int Int)) × Unit) => m_u_law_add p.1 p.2.1 p.2.2.1 p.2.2.2.1)) (ea_cons (ev_var (i := 1) (x := prime_) rfl) (ea_cons (ev_var (i := 2) (x := a_) rfl) (ea_cons (ev_op opx_ixL (fun x y => idx_mild x y) (ev_var (i := 7) (x := points_) rfl) (ev_var (i := 8) (x := one_) rfl)) (ea_cons (ev_op opx_ixL (fun x y => idx_mild x y) (ev_var (i := 7) (x := points_) rfl) (ev_var (i := 9) (x := other_) rfl)) ea_nil))))))) : EvT K (W0 E) [some (.im (toD script_)), some (.im (toD prime_)), some (.im (toD a_)), some (.im (toD b_)), some (.im (toD first_)), some (.im (toD second_)), some (.im (toD curve_)), some (.im (toD points_)), some (.im (toD one_)), some (.im (toD other_)), some (.im (toD scales_)), some (.im (toD left_)), some (.im (toD right_)), some (.im (toD twice_)), some (.im (toD total_)), none, none] _ _)
            refine blk_seq (blk_if2 L trivial ht_ ?_ ?_)
            · have hr_ := ((ev_bl (b := false)) : EvX K (W0 E) [some (.im (toD script_)), some (.im (toD prime_)), some (.im (toD a_)), some (.im (toD b_)), some (.im (toD first_)), some (.im (toD second_)), some (.im (toD curve_)), some (.im (toD points_)), some (.im (toD one_)), some (.im (toD other_)), some (.im (toD scales_)), some (.im (toD left_)), some (.im (toD right_)), some (.im (toD twice_)), some (.im (toD total_)), none, none] _ _)
              exact blk_ret L trivial hr_
            · refine blk_nil ?_
              try refine Blk.nx ?_
              have hs_ := ((ev_call (f := (fun (p : O_Curve × (T3 Int Int Int) × (T3 Int Int Int) × Unit) => m_same_point p.1 p.2.1 p.2.2.1)) (ea_cons (ev_var (i := 6) (x := curve_) rfl) (ea_cons (ev_var (i := 11) (x := left_) rfl) (ea_cons (ev_var (i := 12) (x := right_) rfl) ea_nil)))) : EvX K (W0 E) [some (.im (toD script_)), some (.im (toD prime_)), some (.im (toD a_)), some (.im (toD b_)), some (.im (toD first_)), some (.im (toD second_)), some (.im (toD curve_)), some (.im (toD points_)), some (.im (toD one_)), some (.im (toD other_)), some (.im (toD scales_)), some (.im (toD left_)), some (.im (toD right_)), some (.im (toD twice_)), some (.im (toD total_)), none, none] _ _)
              refine blk_seq (blk_set (i := 15) L trivial hs_ fun same_ => ?_)
              show Blk _ _ _ _ _ [some (.im (toD script_)), some (.im (toD prime_)), some (.im (toD a_)), some (.im (toD b_)), some (.im (toD first_)), some (.im (toD second_)), some (.im (toD curve_)), some (.im (toD points_)), some (.im (toD one_)), some (.im (toD other_)), some (.im (toD scales_)), some (.im (toD left_)), some (.im (toD right_)), some (.im (toD twice_)), some (.im (toD total_)), some (.im (toD same_)), none] _
              try refine Blk.nx ?_
              have ht_ := ((et_or (et_not (et_B (ev_isi isi_bool (ev_var (i := 15) (x := same_) rfl)))) (et_test (ev_op opx_neB mild_ok (ev_var (i := 15) (x := same_) rfl) (ev_op opx_eqD mild_need (ev_op opx_ixL (fun x y => idx_mild x y) (ev_var (i := 7) (x := points_) rfl) (ev_var (i := 8) (x := one_) rfl)) (ev_op opx_ixL (fun x y => idx_mild x y) (ev_var (i := 7) (x := points_) rfl) (ev_var (i := 9) (x := other_) rfl)))))) : EvT K (W0 E) [some (.im (toD script_)), some (.im (toD prime_)), some (.im (toD a_)), some (.im (toD b_)), some (.im (toD first_)), some (.im (toD second_)), some (.im (toD curve_)), some (.im (toD points_)), some (.im (toD one_)), some (.im (toD other_)), some (.im (toD scales_)), some (.im (toD left_)), some (.im (toD right_)), some (.im (toD twice_)), some (.im (toD total_)), some (.im (toD same_)), none] _ _)
              refine blk_seq (blk_if2 L trivial ht_ ?_ ?_)
              · have hr_ := ((ev_bl (b := false)) : EvX K (W0 E) [some (.im (toD script_)), some (.im (toD prime_)), some (.im (toD a_)), some (.im (toD b_)), some (.im (toD first_)), some (.im (toD second_)), some (.im (toD curve_)), some (.im (toD points_)), some (.im (toD one_)), some (.im (toD other_)), some (.im (toD scales_)), some (.im (toD left_)), some (.im (toD right_)), some (.im (toD twice_)), some (.im (toD total_)), some (.im (toD same_)), none] _ _)
                exact blk_ret L trivial hr_
              · refine blk_nil ?_
                try refine Blk.nx ?_
                have hr_ := ((ev_andV (ev_op opx_isB mild_ok (ev_call (f := (fun (p : O_Curve × (T3 Int Int Int) × (T3 Int Int Int) × Unit) => m_same_point p.1 p.2.1 p.2.2.1)) (ea_cons (ev_var (i := 6) (x := curve_) rfl) (ea_cons (ev_var (i := 11) (x := left_) rfl) (ea_cons (ev_call (f := (fun (p : (Option (T2 Int Int)) × Unit) => m_to_jacobian p.1)) (ea_cons (ev_op opx_ixL (fun x y => idx_mild x y) (ev_var (i := 7) (x := points_) rfl) (ev_var (i := 8) (x := one_) rfl)) ea_nil)) ea_nil)))) (ev_bl (b := true))) (ev_op opx_isB mild_ok (ev_call (f := (fun (p : O_Curve × (T3 Int Int Int) × (T3 Int Int Int) × Unit) => m_same_point p.1 p.2.1 p.2.2.1)) (ea_cons (ev_var (i := 6) (x := curve_) rfl) (ea_cons (ev_var (i := 14) (x := total_) rfl) (ea_cons (ev_call (f := (fun (p : O_Curve × (T3 Int Int Int) × (T3 Int Int Int) × Unit) => m_add_jacobian p.1 p.2.1 p.2.2.1)) (ea_cons (ev_var (i := 6) (x := curve_) rfl) (ea_cons (ev_var (i := 12) (x := right_) rfl) (ea_cons (ev_var (i := 11) (x := left_) rfl) ea_nil)))) ea_nil)))) (ev_bl (b := true)))) : EvX K (W0 E) [some (.im (toD script_)), some (.im (toD prime_)), some (.im (toD a_)), some (.im (toD b_)), some (.im (toD first_)), some (.im (toD second_)), some (.im (toD curve_)), some (.im (toD points_)), some (.im (toD one_)), some (.im (toD other_)), some (.im (toD scales_)), some (.im (toD left_)), some (.im (toD right_)), some (.im (toD twice_)), some (.im (toD total_)), some (.im (toD same_)), none] _ _)
                exact blk_ret L trivial hr_
/-! ### the head -/
def dfs : List He.DefD := [⟨("bezout", none), "bezout", "bezout", defArgs s_bezout, defBody s_bezout, defScope s_bezout, [], []⟩, ⟨("inverse", none), "inverse", "inverse", defArgs s_inverse, defBody s_inverse, defScope s_inverse, [], []⟩, ⟨("to_jacobian", none), "to_jacobian", "to_jacobian", defArgs s_to_jacobian, defBody s_to_jacobian, defScope s_to_jacobian, [], []⟩, ⟨("from_jacobian", none), "from_jacobian", "from_jacobian", defArgs s_from_jacobian, defBody s_from_jacobian, defScope s_from_jacobian, [], []⟩, ⟨("double_jacobian", none), "double_jacobian", "double_jacobian", defArgs s_double_jacobian, defBody s_double_jacobian, defScope s_double_jacobian, [], []⟩, ⟨("add_jacobian", none), "add_jacobian", "add_jacobian", defArgs s_add_jacobian, defBody s_add_jacobian, defScope s_add_jacobian, [], []⟩, ⟨("_scaled", none), "_scaled", "_scaled", defArgs s_u_scaled, defBody s_u_scaled, defScope s_u_scaled, [], []⟩, ⟨("same_point", none), "same_point", "same_point", defArgs s_same_point, defBody s_same_point, defScope s_same_point, [], []⟩, ⟨("Curve", some "__init__"), "__init__", "Curve.__init__", defArgs s_Curve_init, defBody s_Curve_init, defScope s_Curve_init, [], []⟩, ⟨("_law_cell", none), "_law_cell", "_law_cell", defArgs s_u_law_cell, defBody s_u_law_cell, defScope s_u_law_cell, [], []⟩, ⟨("_law_is_integer", none), "_law_is_integer", "_law_is_integer", defArgs s_u_law_is_integer, defBody s_u_law_is_integer, defScope s_u_law_is_integer, [], []⟩, ⟨("_law_is_prime", none), "_law_is_prime", "_law_is_prime", defArgs s_u_law_is_prime, defBody s_u_law_is_prime, defScope s_u_law_is_prime, [], []⟩, ⟨("_law_prime", none), "_law_prime", "_law_prime", defArgs s_u_law_prime, defBody s_u_law_prime, defScope s_u_law_prime, [], []⟩, ⟨("_law_curve_prime", none), "_law_curve_prime", "_law_curve_prime", defArgs s_u_law_curve_prime, defBody s_u_law_curve_prime, defScope s_u_law_curve_prime, [], []⟩, ⟨("_law_power", none), "_law_power", "_law_power", defArgs s_u_law_power, defBody s_u_law_power, defScope s_u_law_power, [], []⟩, ⟨("_law_inverse", none), "_law_inverse", "_law_inverse", defArgs s_u_law_inverse, defBody s_u_law_inverse, defScope s_u_law_inverse, [], []⟩, ⟨("_law_residue", none), "_law_residue", "_law_residue", defArgs s_u_law_residue, defBody s_u_law_residue, defScope s_u_law_residue, [], []⟩, ⟨("_law_curve_and_points", none), "_law_curve_and_points", "_law_curve_and_points", defArgs s_u_law_curve_and_points, defBody s_u_law_curve_and_points, defScope s_u_law_curve_and_points, [], []⟩, ⟨("_law_add", none), "_law_add", "_law_add", defArgs s_u_law_add, defBody s_u_law_add, defScope s_u_law_add, [], []⟩, ⟨("_law_singular", none), "_law_singular", "_law_singular", defArgs s_u_law_singular, defBody s_u_law_singular, defScope s_u_law_singular, [], []⟩, ⟨("_law_triple", none), "_law_triple", "_law_triple", defArgs s_u_law_triple, defBody s_u_law_triple, defScope s_u_law_triple, [], []⟩, ⟨("_law_double", none), "_law_double", "_law_double", defArgs s_u_law_double, defBody s_u_law_double, defScope s_u_law_double, [], []⟩, ⟨("_law_sum", none), "_law_sum", "_law_sum", defArgs s_u_law_sum, defBody s_u_law_sum, defScope s_u_law_sum, [], []⟩, ⟨("_law_is_triple", none), "_law_is_triple", "_law_is_triple", defArgs s_u_law_is_triple, defBody s_u_law_is_triple, defScope s_u_law_is_triple, [], []⟩, ⟨("law", none), "law", "law", defArgs s_law, defBody s_law, defScope s_law, [], []⟩]
def fas : List He.Fa := [.glo "bezout", .glo "inverse", .glo "to_jacobian", .glo "from_jacobian", .glo "double_jacobian", .glo "add_jacobian", .glo "_scaled", .glo "same_point", .glo "_law_cell", .glo "_law_is_integer", .glo "_law_is_prime", .glo "_law_prime", .glo "_law_curve_prime", .glo "_law_power", .glo "_law_inverse", .glo "_law_residue", .glo "_law_curve_and_points", .glo "_law_add", .glo "_law_singular", .glo "_law_triple", .glo "_law_double", .glo "_law_sum", .glo "_law_is_triple", .glo "law", .glo "Curve", .cls "Curve", .noat "Curve" "a", .noat "Curve" "b", .noat "Curve" "prime", .mkr "Curve", .glo "CurveError", .glo "OutOfRange", .glo "NoInverse", .glo "Refused", .exc "NoInverse", .exc "OutOfRange", .exc "Refused", .free "abs", .free "bool", .free "int", .free "isinstance", .free "len", .free "range", .free "tuple", .exm "CurveError" "CurveError" true, .exm "CurveError" "OutOfRange" false, .exm "CurveError" "NoInverse" false, .exm "CurveError" "Refused" false, .exm "OutOfRange" "CurveError" true, .exm "OutOfRange" "OutOfRange" true, .exm "OutOfRange" "NoInverse" false, .exm "OutOfRange" "Refused" false, .exm "NoInverse" "CurveError" true, .exm "NoInverse" "OutOfRange" false, .exm "NoInverse" "NoInverse" true, .exm "NoInverse" "Refused" false, .exm "Refused" "CurveError" true, .exm "Refused" "OutOfRange" false, .exm "Refused" "NoInverse" false, .exm "Refused" "Refused" true]
def cons_ : List (Str × D) := [("INFINITY", toD k_INFINITY)]
def exB (K : PySem.W.Frag) : Bool := clsB K errs subE && conB K cons_
abbrev Rw : PySem.W.OpenRow := PySem.W.OpenLaw.row PySem.Challenge.rw_curveseal_k12_jacobian_coordinates
abbrev hk : PySem.W.Hook := He.hookX 5 fas dfs [] [] exB
def ob (s : PySem.W.SharedT) : He.AlX := He.obsX 5 fas dfs [] [] exB (HandSHeadRun.getT s)
theorem ob_eq (s : PySem.W.SharedT) : ob s = hk.obs s.abs := He.obsX_eq (HandSHeadRun.getT_eq s)
theorem run_ (w : World) : HandSHeadRun.RunEq Rw (PySem.W.view Rw.prog [40]) hk ob 20000 ((["is_whole", "is_residue", "is_residue_pair", "bezout", "inverse", "to_jacobian", "from_jacobian", "double_jacobian", "add_jacobian", "_scaled", "same_point", "_law_cell", "_law_is_integer", "_law_is_prime", "_law_prime", "_law_curve_prime", "_law_power", "_law_inverse", "_law_residue", "_law_curve_and_points", "_law_add", "_law_on", "_law_singular", "_law_triple", "_law_double"] : List Str) ++ (["_law_sum", "_law_is_triple", "_wall", "CurveError", "OutOfRange", "NoInverse", "Refused", "Curve", "INFINITY"] : List Str)) w := by
  intro os
  kernel_rfl
theorem facts_of {K : PySem.W.Frag} {h : Heap} {w : World} {mg : Str → Option Value} (X : K.In h) (G : h.Ns mainGlobals mg) (c : He.SaysX fas dfs [] [] exB w h K) : Facts K mg := by
  have cd : He.SaysD fas dfs K := c.t.d
  exact {
    d_bezout := cd.def_ 0 (d := ⟨("bezout", none), "bezout", "bezout", defArgs s_bezout, defBody s_bezout, defScope s_bezout, [], []⟩) rfl
    g_bezout := He.glo_ok X G (cd.fact 0 rfl)
    d_inverse := cd.def_ 1 (d := ⟨("inverse", none), "inverse", "inverse", defArgs s_inverse, defBody s_inverse, defScope s_inverse, [], []⟩) rfl
    g_inverse := He.glo_ok X G (cd.fact 1 rfl)
    d_to_jacobian := cd.def_ 2 (d := ⟨("to_jacobian", none), "to_jacobian", "to_jacobian", defArgs s_to_jacobian, defBody s_to_jacobian, defScope s_to_jacobian, [], []⟩) rfl
    g_to_jacobian := He.glo_ok X G (cd.fact 2 rfl)
    d_from_jacobian := cd.def_ 3 (d := ⟨("from_jacobian", none), "from_jacobian", "from_jacobian", defArgs s_from_jacobian, defBody s_from_jacobian, defScope s_from_jacobian, [], []⟩) rfl
    g_from_jacobian := He.glo_ok X G (cd.fact 3 rfl)
    d_double_jacobian := cd.def_ 4 (d := ⟨("double_jacobian", none), "double_jacobian", "double_jacobian", defArgs s_double_jacobian, defBody s_double_jacobian, defScope s_double_jacobian, [], []⟩) rfl
    g_double_jacobian := He.glo_ok X G (cd.fact 4 rfl)
    d_add_jacobian := cd.def_ 5 (d := ⟨("add_jacobian", none), "add_jacobian", "add_jacobian", defArgs s_add_jacobian, defBody s_add_jacobian, defScope s_add_jacobian, [], []⟩) rfl
    g_add_jacobian := He.glo_ok X G (cd.fact 5 rfl)
    d_u_scaled := cd.def_ 6 (d := ⟨("_scaled", none), "_scaled", "_scaled", defArgs s_u_scaled, defBody s_u_scaled, defScope s_u_scaled, [], []⟩) rfl
    g_u_scaled := He.glo_ok X G (cd.fact 6 rfl)
    d_same_point := cd.def_ 7 (d := ⟨("same_point", none), "same_point", "same_point", defArgs s_same_point, defBody s_same_point, defScope s_same_point, [], []⟩) rfl
    g_same_point := He.glo_ok X G (cd.fact 7 rfl)
    d_Curve_init := cd.def_ 8 (d := ⟨("Curve", some "__init__"), "__init__", "Curve.__init__", defArgs s_Curve_init, defBody s_Curve_init, defScope s_Curve_init, [], []⟩) rfl
    d_u_law_cell := cd.def_ 9 (d := ⟨("_law_cell", none), "_law_cell", "_law_cell", defArgs s_u_law_cell, defBody s_u_law_cell, defScope s_u_law_cell, [], []⟩) rfl
    g_u_law_cell := He.glo_ok X G (cd.fact 8 rfl)
    d_u_law_is_integer := cd.def_ 10 (d := ⟨("_law_is_integer", none), "_law_is_integer", "_law_is_integer", defArgs s_u_law_is_integer, defBody s_u_law_is_integer, defScope s_u_law_is_integer, [], []⟩) rfl
    g_u_law_is_integer := He.glo_ok X G (cd.fact 9 rfl)
    d_u_law_is_prime := cd.def_ 11 (d := ⟨("_law_is_prime", none), "_law_is_prime", "_law_is_prime", defArgs s_u_law_is_prime, defBody s_u_law_is_prime, defScope s_u_law_is_prime, [], []⟩) rfl
    g_u_law_is_prime := He.glo_ok X G (cd.fact 10 rfl)
    d_u_law_prime := cd.def_ 12 (d := ⟨("_law_prime", none), "_law_prime", "_law_prime", defArgs s_u_law_prime, defBody s_u_law_prime, defScope s_u_law_prime, [], []⟩) rfl
    g_u_law_prime := He.glo_ok X G (cd.fact 11 rfl)
    d_u_law_curve_prime := cd.def_ 13 (d := ⟨("_law_curve_prime", none), "_law_curve_prime", "_law_curve_prime", defArgs s_u_law_curve_prime, defBody s_u_law_curve_prime, defScope s_u_law_curve_prime, [], []⟩) rfl
    g_u_law_curve_prime := He.glo_ok X G (cd.fact 12 rfl)
    d_u_law_power := cd.def_ 14 (d := ⟨("_law_power", none), "_law_power", "_law_power", defArgs s_u_law_power, defBody s_u_law_power, defScope s_u_law_power, [], []⟩) rfl
    g_u_law_power := He.glo_ok X G (cd.fact 13 rfl)
    d_u_law_inverse := cd.def_ 15 (d := ⟨("_law_inverse", none), "_law_inverse", "_law_inverse", defArgs s_u_law_inverse, defBody s_u_law_inverse, defScope s_u_law_inverse, [], []⟩) rfl
    g_u_law_inverse := He.glo_ok X G (cd.fact 14 rfl)
    d_u_law_residue := cd.def_ 16 (d := ⟨("_law_residue", none), "_law_residue", "_law_residue", defArgs s_u_law_residue, defBody s_u_law_residue, defScope s_u_law_residue, [], []⟩) rfl
    g_u_law_residue := He.glo_ok X G (cd.fact 15 rfl)
    d_u_law_curve_and_points := cd.def_ 17 (d := ⟨("_law_curve_and_points", none), "_law_curve_and_points", "_law_curve_and_points", defArgs s_u_law_curve_and_points, defBody s_u_law_curve_and_points, defScope s_u_law_curve_and_points, [], []⟩) rfl
    g_u_law_curve_and_points := He.glo_ok X G (cd.fact 16 rfl)
    d_u_law_add := cd.def_ 18 (d := ⟨("_law_add", none), "_law_add", "_law_add", defArgs s_u_law_add, defBody s_u_law_add, defScope s_u_law_add, [], []⟩) rfl
    g_u_law_add := He.glo_ok X G (cd.fact 17 rfl)
    d_u_law_singular := cd.def_ 19 (d := ⟨("_law_singular", none), "_law_singular", "_law_singular", defArgs s_u_law_singular, defBody s_u_law_singular, defScope s_u_law_singular, [], []⟩) rfl
    g_u_law_singular := He.glo_ok X G (cd.fact 18 rfl)
    d_u_law_triple := cd.def_ 20 (d := ⟨("_law_triple", none), "_law_triple", "_law_triple", defArgs s_u_law_triple, defBody s_u_law_triple, defScope s_u_law_triple, [], []⟩) rfl
    g_u_law_triple := He.glo_ok X G (cd.fact 19 rfl)
    d_u_law_double := cd.def_ 21 (d := ⟨("_law_double", none), "_law_double", "_law_double", defArgs s_u_law_double, defBody s_u_law_double, defScope s_u_law_double, [], []⟩) rfl
    g_u_law_double := He.glo_ok X G (cd.fact 20 rfl)
    d_u_law_sum := cd.def_ 22 (d := ⟨("_law_sum", none), "_law_sum", "_law_sum", defArgs s_u_law_sum, defBody s_u_law_sum, defScope s_u_law_sum, [], []⟩) rfl
    g_u_law_sum := He.glo_ok X G (cd.fact 21 rfl)
    d_u_law_is_triple := cd.def_ 23 (d := ⟨("_law_is_triple", none), "_law_is_triple", "_law_is_triple", defArgs s_u_law_is_triple, defBody s_u_law_is_triple, defScope s_u_law_is_triple, [], []⟩) rfl
    g_u_law_is_triple := He.glo_ok X G (cd.fact 22 rfl)
    d_law := cd.def_ 24 (d := ⟨("law", none), "law", "law", defArgs s_law, defBody s_law, defScope s_law, [], []⟩) rfl
    g_law := He.glo_ok X G (cd.fact 23 rfl)
    g_Curve := He.glo_ok X G (cd.fact 24 rfl)
    cl_Curve := He.cls_ok (x := "Curve") (cd.fact 25 rfl)
    nf_Curve_a := He.noat_ok (x := "Curve") (f := "a") (cd.fact 26 rfl)
    nf_Curve_b := He.noat_ok (x := "Curve") (f := "b") (cd.fact 27 rfl)
    nf_Curve_prime := He.noat_ok (x := "Curve") (f := "prime") (cd.fact 28 rfl)
    mk_Curve := He.mkr_ok (x := "Curve") (cd.fact 29 rfl)
    g_CurveError := He.glo_ok X G (cd.fact 30 rfl)
    g_OutOfRange := He.glo_ok X G (cd.fact 31 rfl)
    g_NoInverse := He.glo_ok X G (cd.fact 32 rfl)
    g_Refused := He.glo_ok X G (cd.fact 33 rfl)
    x_NoInverse := (He.exc_ok (x := "NoInverse") (cd.fact 34 rfl)).1
    k_NoInverse := (He.exc_ok (x := "NoInverse") (cd.fact 34 rfl)).2.1
    b_NoInverse := (He.exc_ok (x := "NoInverse") (cd.fact 34 rfl)).2.2.1
    t_NoInverse := (He.exc_ok (x := "NoInverse") (cd.fact 34 rfl)).2.2.2
    x_OutOfRange := (He.exc_ok (x := "OutOfRange") (cd.fact 35 rfl)).1
    k_OutOfRange := (He.exc_ok (x := "OutOfRange") (cd.fact 35 rfl)).2.1
    b_OutOfRange := (He.exc_ok (x := "OutOfRange") (cd.fact 35 rfl)).2.2.1
    t_OutOfRange := (He.exc_ok (x := "OutOfRange") (cd.fact 35 rfl)).2.2.2
    x_Refused := (He.exc_ok (x := "Refused") (cd.fact 36 rfl)).1
    k_Refused := (He.exc_ok (x := "Refused") (cd.fact 36 rfl)).2.1
    b_Refused := (He.exc_ok (x := "Refused") (cd.fact 36 rfl)).2.2.1
    t_Refused := (He.exc_ok (x := "Refused") (cd.fact 36 rfl)).2.2.2
    n_abs := He.free_ok X G (cd.fact 37 rfl)
    n_bool := He.free_ok X G (cd.fact 38 rfl)
    n_int := He.free_ok X G (cd.fact 39 rfl)
    n_isinstance := He.free_ok X G (cd.fact 40 rfl)
    n_len := He.free_ok X G (cd.fact 41 rfl)
    n_range := He.free_ok X G (cd.fact 42 rfl)
    n_tuple := He.free_ok X G (cd.fact 43 rfl)
    c_INFINITY := con_of X G (He.ba c.more).2 (List.mem_of_getElem? (i := 0) rfl)
    cls := cls_of (He.ba c.more).1 }
end Mi
namespace Mi
open PySem PySem.Spec L2
/-! ### the law's own helpers -/
theorem cell_ok (ns : List Int) (k : Nat) : m_u_law_cell ns (k : Int) = .ok (ns.getD k 0) := by
  unfold m_u_law_cell
  simp only [Res.bind_ok, cond_dec]
  by_cases h : (k : Int) < (ns.length : Int)
  · rw [if_pos h]
    have h' : k < ns.length := by omega
    rw [idx_nat (List.getElem?_eq_getElem h')]
    simp [Res.bind_ok, h']
  · rw [if_neg h]
    have h' : ¬ k < ns.length := by omega
    simp [h']
theorem cell_bits {ns : List Int} {B : Nat} (hb : ∀ i ∈ ns, Builtin.Int.intBits i ≤ B) (k : Nat) : (ns.getD k 0).natAbs < 2 ^ B := by
  rw [List.getD_eq_getElem?_getD]
  by_cases h : k < ns.length
  · rw [List.getElem?_eq_getElem h]
    exact ibits_le (hb _ (List.getElem_mem h))
  · rw [List.getElem?_eq_none (by omega)]
    exact Nat.two_pow_pos _
theorem isint_ok (i : Int) : m_u_law_is_integer (D.int i) = .ok true := by
  unfold m_u_law_is_integer
  simp [Res.bind_ok, toD, ToD.d, D.plain, isI, tyName, Res.need_pos]

theorem ipow2 (x : Int) : x ^ 2 = x * x := by rw [Int.pow_succ, Int.pow_succ, Int.pow_zero, Int.one_mul]
theorem pyDown_nil {i j : Int} (h : i ≤ j) : pyDown i j = [] := by
  unfold pyDown; rw [show (i - j).toNat = 0 by omega]; rfl
theorem pyDown_cons {i j : Int} (h : j < i) : pyDown i j = i :: pyDown (i - 1) j := by
  unfold pyDown
  rw [show (i - j).toNat = (i - 1 - j).toNat + 1 by omega, List.range_succ_eq_map, List.map_cons, List.map_map]
  congr 1
  · omega
  · refine List.map_congr_left fun a _ => ?_
    show i - ((a + 1 : Nat) : Int) = i - 1 - (a : Int)
    omega
structure Pr (p : Nat) : Prop where
  pr : IsP p
  odd : p % 2 = 1
  lt : p < 2 ^ 256
theorem Pr.ge {p : Nat} (h : Pr p) : 3 ≤ p := by have := h.pr.1; have := h.odd; omega
theorem Pr.pos {p : Nat} (h : Pr p) : (0 : Int) < (p : Int) := by have := h.ge; omega
theorem res_lt {p : Nat} (h : Pr p) {x : Int} (h0 : 0 ≤ x) (h1 : x < p) : x.natAbs < 2 ^ 256 := by have := h.lt; omega
theorem mul_res {p : Nat} (h : Pr p) {x y : Int} (h0 : 0 ≤ x) (h1 : x < p) (h2 : 0 ≤ y) (h3 : y < p) : CMulX x y := cmulx (res_lt h h0 h1) (res_lt h h2 h3) (by decide)

/-! ### the primes -/
theorem lt4 : 4000000 < 2 ^ 256 := by decide +kernel
theorem lt1 : 1000000 < 2 ^ 256 := by decide +kernel
theorem lt60 : 4000000 < 2 ^ 60 := by decide +kernel
def tp (v : Nat) : Bool := decide (2 ≤ v) && decide (v < 1000000) && decide (v % 2 = 1) && (List.range 1000).all fun d => decide (d < 2) || decide (v < d * d) || !decide (v % d = 0)
theorem tp_ok {v : Nat} (h : tp v = true) : Pr v := by
  simp only [tp, Bool.and_eq_true, decide_eq_true_eq] at h
  obtain ⟨⟨⟨h1, h2⟩, h3⟩, h4⟩ := h
  refine ⟨small_prime h1 fun d d1 d2 d3 => ?_, h3, Nat.lt_trans h2 lt1⟩
  have hd : d < 1000 := by
    refine Nat.lt_of_not_le fun z => ?_
    have := Nat.mul_le_mul z z
    omega
  have := List.all_eq_true.mp h4 d (List.mem_range.mpr hd)
  have e : v % d = 0 := Nat.mod_eq_zero_of_dvd d3
  simp only [e, Bool.or_eq_true, decide_eq_true_eq, decide_true, Bool.not_true] at this
  rcases this with (z | z) | z
  · omega
  · omega
  · cases z
theorem ip_loop (n : Nat) (h2 : 2 ≤ n) (ho : n % 2 = 1) (hn : n < 2 ^ 60) (k : Int → Res Bool) (hk : ∀ d, k d = .ok true) : ∀ (ks : List Int) (d : Nat), d % 2 = 1 → 3 ≤ d → d + 2 * ks.length < 4000 → n < (d + 2 * ks.length) * (d + 2 * ks.length) → (∀ q, 2 ≤ q → q < d → ¬ q ∣ n) → ∃ b, m_u_law_is_prime_l2 (n : Int) k ks (d : Int) = .ok b ∧ (b = true → IsP n) := by
  intro ks
  induction ks with
  | nil =>
    intro d d1 d2 d3 d4 d5
    refine ⟨true, hk _, fun _ => small_prime h2 fun q q1 q2 => d5 q q1 (Nat.lt_of_not_le fun z => ?_)⟩
    have := Nat.mul_le_mul z z
    simp at d4; omega
  | cons x r ih =>
    intro d d1 d2 d3 d4 d5
    rw [List.length_cons] at d3 d4
    rw [m_u_law_is_prime_l2]
    have hm : CMulX (d : Int) (d : Int) := cmulx (a := 20) (b := 20) (by omega) (by omega) (by decide)
    simp only [Res.bind_ok, need_bind, cond_dec, Res.need_pos hm, Res.need_pos (show (0 : Int) < (d : Int) by omega)]
    by_cases c1 : (n : Int) < (d : Int) * d
    · rw [if_pos c1]
      have c1 : n < d * d := by
        have e : ((d * d : Nat) : Int) = (d : Int) * d := Int.natCast_mul ..
        omega
      refine ⟨true, rfl, fun _ => small_prime h2 fun q q1 q2 => d5 q q1 (Nat.lt_of_not_le fun z => ?_)⟩
      have := Nat.mul_le_mul z z
      omega
    · rw [if_neg c1]
      by_cases c2 : (n : Int) % (d : Int) = 0
      · rw [if_pos c2]; exact ⟨false, rfl, fun z => by cases z⟩
      · rw [if_neg c2]
        refine ih (d + 2) (by omega) (by omega) (by omega) (by rw [show d + 2 + 2 * r.length = d + 2 * (r.length + 1) by omega]; exact d4) fun q q1 q2 q3 => ?_
        by_cases e1 : q < d
        · exact d5 q q1 e1 q3
        · by_cases e2 : q = d
          · subst e2
            exact c2 (by rw [← Int.natCast_emod, Nat.mod_eq_zero_of_dvd q3]; rfl)
          · have : q % 2 = 0 := by omega
            have : 2 ∣ n := Nat.dvd_trans (Nat.dvd_of_mod_eq_zero this) q3
            have := Nat.mod_eq_zero_of_dvd this
            omega
theorem ip_ok (n : Nat) (h3 : 3 ≤ n) (hn : n < 4000000) : ∃ b, m_u_law_is_prime (n : Int) = .ok b ∧ (b = true → Pr n) := by
  have hr : okRange (1024 : Int) := ⟨by decide, by decide⟩
  have hl : (pyRange 0 1024).length = 1024 := by rw [pyRange_len]; rfl
  unfold m_u_law_is_prime
  simp only [Res.bind_ok, need_bind, Res.need_pos hr]
  generalize pyRange 0 1024 = ks at *
  by_cases ho : n % 2 = 1
  · have a1 : decide ((n : Int) % 2 = 0) = false := decide_eq_false (by omega)
    have a2 : decide ((n : Int) < 3) = false := decide_eq_false (by omega)
    rw [a1, a2, cond_false, Res.bind_ok, cond_false]
    obtain ⟨b, q1, q2⟩ := ip_loop n (by omega) ho (Nat.lt_trans hn lt60) m_u_law_is_prime_k5 (fun _ => rfl) ks 3 (by decide) (by decide) (by rw [hl]; omega) (by rw [hl]; omega) (fun q q1 q2 q3 => by
      have : q = 2 := by omega
      subst this
      have := Nat.mod_eq_zero_of_dvd q3
      omega)
    rw [show ((3 : Nat) : Int) = 3 from rfl] at q1
    exact ⟨b, q1, fun z => ⟨q2 z, ho, Nat.lt_trans hn lt4⟩⟩
  · rw [decide_eq_true (show (n : Int) % 2 = 0 by omega)]
    simp only [cond_true, Res.bind_ok]
    refine ⟨_, rfl, fun z => ?_⟩
    have := of_decide_eq_true z
    omega
theorem np_loop (k : Int → Res Int) (hk : ∀ d, k d = .ok 65537) : ∀ (ks : List Int) (n : Nat), 5 ≤ n → n + ks.length < 4000000 → ∃ p : Nat, m_u_law_prime_l3 k ks (n : Int) = .ok (p : Int) ∧ Pr p ∧ 5 ≤ p := by
  intro ks
  induction ks with
  | nil => intro n h1 h2; exact ⟨65537, hk _, tp_ok (by decide +kernel), by decide⟩
  | cons x r ih =>
    intro n h1 h2
    rw [List.length_cons] at h2
    rw [m_u_law_prime_l3]
    obtain ⟨b, q1, q2⟩ := ip_ok n (by omega) (by omega)
    simp only [Res.bind_ok, q1]
    cases b with
    | true => exact ⟨n, rfl, q2 rfl, h1⟩
    | false => exact ih (n + 1) (by omega) (by omega)
theorem list1 {z : Int} (h0 : 0 ≤ z) (h1 : z < 12) : ∃ v : Int, idx ([5, 7, 11, 13, 17, 19, 23, 29, 31, 37, 41, 43] : List Int) z = .ok v ∧ 5 ≤ v ∧ tp v.toNat = true := by
  rcases (by omega : z = 0 ∨ z = 1 ∨ z = 2 ∨ z = 3 ∨ z = 4 ∨ z = 5 ∨ z = 6 ∨ z = 7 ∨ z = 8 ∨ z = 9 ∨ z = 10 ∨ z = 11) with rfl | rfl | rfl | rfl | rfl | rfl | rfl | rfl | rfl | rfl | rfl | rfl <;> exact ⟨_, rfl, by decide, by decide +kernel⟩
theorem list2 {z : Int} (h0 : 0 ≤ z) (h1 : z < 12) : ∃ v : Int, idx ([97, 193, 257, 7681, 12289, 65537, 786433, 65521, 8191, 131071, 524287, 241] : List Int) z = .ok v ∧ 5 ≤ v ∧ tp v.toNat = true := by
  rcases (by omega : z = 0 ∨ z = 1 ∨ z = 2 ∨ z = 3 ∨ z = 4 ∨ z = 5 ∨ z = 6 ∨ z = 7 ∨ z = 8 ∨ z = 9 ∨ z = 10 ∨ z = 11) with rfl | rfl | rfl | rfl | rfl | rfl | rfl | rfl | rfl | rfl | rfl | rfl <;> exact ⟨_, rfl, by decide, by decide +kernel⟩
theorem prime_ok (c : Int) {least : Nat} (h3 : 5 ≤ least) (h4 : least ≤ 100) : ∃ p : Nat, m_u_law_prime c (least : Int) = .ok (p : Int) ∧ Pr p ∧ 5 ≤ p := by
  have z0 := Int.emod_nonneg ((c.natAbs : Int) / 5) (show (12 : Int) ≠ 0 by decide)
  have z1 := Int.emod_lt_of_pos ((c.natAbs : Int) / 5) (show (0 : Int) < 12 by decide)
  have hr : okRange (400 : Int) := ⟨by decide, by decide⟩
  have hl : (pyRange 0 400).length = 400 := by rw [pyRange_len]; rfl
  unfold m_u_law_prime
  simp only [Res.bind_ok, need_bind, cond_dec, Res.need_pos hr]
  by_cases c1 : (c.natAbs : Int) % 5 = 1
  · rw [if_pos c1]
    obtain ⟨v, v1, v2, v3⟩ := list1 z0 z1
    exact ⟨v.toNat, by rw [v1, Int.toNat_of_nonneg (by omega)], tp_ok v3, by omega⟩
  rw [if_neg c1]
  by_cases c2 : (c.natAbs : Int) % 5 = 2
  · rw [if_pos c2]
    obtain ⟨v, v1, v2, v3⟩ := list2 z0 z1
    exact ⟨v.toNat, by rw [v1, Int.toNat_of_nonneg (by omega)], tp_ok v3, by omega⟩
  rw [if_neg c2]
  have ht : ∃ v : Int, idx ([60, 1000, 1000000] : List Int) ((c.natAbs : Int) / 15 % 3) = .ok v ∧ 0 < v ∧ v ≤ 1000000 := by
    have h0 := Int.emod_nonneg ((c.natAbs : Int) / 15) (show (3 : Int) ≠ 0 by decide)
    have h1 := Int.emod_lt_of_pos ((c.natAbs : Int) / 15) (show (0 : Int) < 3 by decide)
    generalize (c.natAbs : Int) / 15 % 3 = z at *
    rcases (by omega : z = 0 ∨ z = 1 ∨ z = 2) with rfl | rfl | rfl <;> exact ⟨_, rfl, by decide, by decide⟩
  obtain ⟨v, v1, v2, v3⟩ := ht
  simp only [v1, Res.bind_ok, Res.need_pos v2]
  generalize pyRange 0 400 = ks at *
  have w0 := Int.emod_nonneg ((c.natAbs : Int) / 5) (show v ≠ 0 by omega)
  have w1 := Int.emod_lt_of_pos ((c.natAbs : Int) / 5) v2
  generalize (c.natAbs : Int) / 5 % v = w at *
  obtain ⟨m, hm⟩ := Int.eq_ofNat_of_zero_le w0
  subst hm
  have q := np_loop m_u_law_prime_k5 (fun _ => rfl) ks (least + m) (by omega) (by omega)
  rw [Int.natCast_add] at q
  exact q
theorem nm {x y z : Int} {α : Type} {f : Int → Res α} (a b : Nat) (ha : x.natAbs < 2 ^ a) (hb : y.natAbs < 2 ^ b) (h : a + b ≤ 134217728) (e : x * y = z) : Res.need (CMulX x y) (f (x * y)) = f z := by
  rw [Res.need_pos (cmulx ha hb h), e]

/-! ### the five great primes -/
abbrev g0 : Nat := 57896044618658097711785492504343953926634992332820282019728792003956564819949
abbrev g1 : Nat := 115792089237316195423570985008687907853269984665640564039457584007908834671663
abbrev g2 : Nat := 2305843009213693951
abbrev g3 : Nat := 2147483647
abbrev g4 : Nat := 115792089210356248762697446949407573530086143415290314195533631308867097853951
theorem great_get {z : Int} (h0 : 0 ≤ z) (h1 : z < 5) : ∃ p : Nat, idx ([(g0 : Int), g1, g2, g3, g4] : List Int) z = .ok (p : Int) ∧ Pr p ∧ 5 ≤ p := by
  rcases (by omega : z = 0 ∨ z = 1 ∨ z = 2 ∨ z = 3 ∨ z = 4) with rfl | rfl | rfl | rfl | rfl
  · exact ⟨g0, rfl, ⟨pr_57896044618658097711785492504343953926634992332820282019728792003956564819949, by decide +kernel, by decide +kernel⟩, by decide +kernel⟩
  · exact ⟨g1, rfl, ⟨pr_115792089237316195423570985008687907853269984665640564039457584007908834671663, by decide +kernel, by decide +kernel⟩, by decide +kernel⟩
  · exact ⟨g2, rfl, ⟨prime_m61, by decide +kernel, by decide +kernel⟩, by decide +kernel⟩
  · exact ⟨g3, rfl, ⟨prime_m31, by decide +kernel, by decide +kernel⟩, by decide +kernel⟩
  · exact ⟨g4, rfl, ⟨pr_115792089210356248762697446949407573530086143415290314195533631308867097853951, by decide +kernel, by decide +kernel⟩, by decide +kernel⟩
theorem curve_prime_ok (c : Int) : ∃ p : Nat, m_u_law_curve_prime c = .ok (p : Int) ∧ Pr p ∧ 5 ≤ p := by
  have e64 : (2 : Int) ^ (64 : Int).toNat = 18446744073709551616 := by decide +kernel
  have e63 : (2 : Int) ^ (63 : Int).toNat = 9223372036854775808 := by decide +kernel
  have e61 : (2 : Int) ^ (61 : Int).toNat = 2305843009213693952 := by decide +kernel
  have e32 : (2 : Int) ^ (32 : Int).toNat = 4294967296 := by decide +kernel
  have e31 : (2 : Int) ^ (31 : Int).toNat = 2147483648 := by decide +kernel
  have e192 : (18446744073709551616 * 18446744073709551616 * 18446744073709551616 : Int) = 6277101735386680763835789423207666416102355444464034512896 := by decide +kernel
  have z0 := Int.emod_nonneg ((c.natAbs : Int) / 7) (show (5 : Int) ≠ 0 by decide)
  have z1 := Int.emod_lt_of_pos ((c.natAbs : Int) / 7) (show (0 : Int) < 5 by decide)
  unfold m_u_law_curve_prime
  simp (decide := true) only [Res.bind_ok, need_bind, e64, e63, e61, e32, e31, need_bd, e192, cond_dec]
  by_cases hc : (c.natAbs : Int) % 7 = 3
  · rw [if_pos hc, Res.need_pos (by decide)]
    exact great_get z0 z1
  · rw [if_neg hc]
    exact prime_ok (c / 7) (least := 5) (by decide) (by decide)

/-! ### powers and inverses, the law's own -/
theorem Pr.pb {p : Nat} (h : Pr p) : Pb p := ⟨by have := h.ge; omega, h.lt⟩
theorem lpw_loop {p : Nat} (h : Pr p) (k : Int × Int × Int → Res Int) : ∀ (ks : List Int) (v s : Int) (e : Nat), 0 ≤ v → v < p → 0 ≤ s → s < p → e < 2 ^ ks.length → ∃ e' s', m_u_law_power_l1 (p : Int) k ks ((e : Int), v, s) = k (e', v * s ^ e % p, s') := by
  have hp := h.pos
  intro ks
  induction ks with
  | nil =>
    intro v s e v0 v1 s0 s1 he
    have : e = 0 := by simpa using he
    subst this
    exact ⟨0, s, by rw [m_u_law_power_l1, Int.pow_zero, Int.mul_one, Int.emod_eq_of_lt v0 v1]; rfl⟩
  | cons x r ih =>
    intro v s e v0 v1 s0 s1 he
    rw [List.length_cons, Nat.pow_succ] at he
    rw [m_u_law_power_l1]
    have e2 : ((e : Nat) : Int) / 2 = ((e / 2 : Nat) : Int) := by omega
    have t0 := Int.emod_nonneg (s * s) (show (p : Int) ≠ 0 by omega)
    have t1 := Int.emod_lt_of_pos (s * s) hp
    have u0 := Int.emod_nonneg (v * s) (show (p : Int) ≠ 0 by omega)
    have u1 := Int.emod_lt_of_pos (v * s) hp
    have a1 : (s * s % p) ^ (e / 2) % p = (s * s) ^ (e / 2) % p := em_pow (em_em _ _) _
    have a2 : s ^ e = s ^ (e % 2) * (s * s) ^ (e / 2) := by
      rw [← ipow2 s, ← Int.pow_mul, ← Int.pow_add, Nat.mod_add_div]
    unfold m_u_law_power_k3
    simp only [Res.bind_ok, need_bind, cond_dec, Res.need_pos (mul_res h s0 s1 s0 s1), Res.need_pos (mul_res h v0 v1 s0 s1), Res.need_pos hp, e2]
    by_cases hz : (e : Int) = 0
    · rw [if_pos hz]
      have : e = 0 := by omega
      subst this
      exact ⟨0, s, by rw [Int.pow_zero, Int.mul_one, Int.emod_eq_of_lt v0 v1]; rfl⟩
    · rw [if_neg hz]
      by_cases ho : (e : Int) % 2 = 1
      · rw [if_pos ho]
        obtain ⟨e', s', q⟩ := ih (v * s % p) (s * s % p) (e / 2) u0 u1 t0 t1 (by omega)
        refine ⟨e', s', ?_⟩
        rw [q]
        congr 2
        rw [em_mul (em_em _ _) a1, a2, show e % 2 = 1 by omega, Int.pow_one, ← Int.mul_assoc]
      · rw [if_neg ho]
        obtain ⟨e', s', q⟩ := ih v (s * s % p) (e / 2) v0 v1 t0 t1 (by omega)
        refine ⟨e', s', ?_⟩
        rw [q]
        congr 2
        rw [em_mul rfl a1, a2, show e % 2 = 0 by omega, Int.pow_zero, Int.one_mul]
theorem lpower_ok {p : Nat} (h : Pr p) (a : Int) (e : Nat) (he : e < 2 ^ 256) : m_u_law_power a (e : Int) (p : Int) = .ok (a ^ e % p) := by
  have hp := h.pos
  have h3 := h.ge
  have hr : okRange (260 : Int) := ⟨by decide, by decide⟩
  have hl : (pyRange 0 260).length = 260 := by rw [pyRange_len]; rfl
  unfold m_u_law_power
  simp only [Res.bind_ok, need_bind, Res.need_pos hp, Res.need_pos hr]
  generalize pyRange 0 260 = ks at *
  obtain ⟨e', s', q⟩ := lpw_loop h m_u_law_power_k4 ks 1 (a % p) e (by decide) (by omega) (Int.emod_nonneg _ (by omega)) (Int.emod_lt_of_pos _ hp) (by rw [hl]; exact Nat.lt_trans he (by decide +kernel))
  rw [q]
  unfold m_u_law_power_k4
  rw [Int.one_mul, em_pow (em_em a p) e]
theorem linv_ok {p : Nat} (h : Pr p) (a : Int) : m_u_law_inverse a (p : Int) = .ok (a ^ (p - 2) % p) := by
  have h3 := h.ge
  have hlt := h.lt
  unfold m_u_law_inverse
  have e : (p : Int) - 2 = ((p - 2 : Nat) : Int) := by omega
  simp only [Res.bind_ok, e, lpower_ok h _ _ (show p - 2 < 2 ^ 256 by omega)]

/-! ### residues of cells -/
theorem residue_ok {m : Int} (hm : 0 < m) (c : Int) : ∃ r, m_u_law_residue c m = .ok r ∧ 0 ≤ r ∧ r < m := by
  unfold m_u_law_residue
  simp only [Res.bind_ok, need_bind, cond_dec, pow18, Res.need_pos hm]
  have F : ∀ x : Int, ∃ r, (Res.ok (x % m) : Res Int) = .ok r ∧ 0 ≤ r ∧ r < m := fun x => ⟨_, rfl, Int.emod_nonneg _ (by omega), Int.emod_lt_of_pos _ hm⟩
  by_cases h1 : 1000000000000000000 ≤ (c.natAbs : Int)
  · rw [if_pos h1]; exact F _
  rw [if_neg h1]
  by_cases h2 : (c.natAbs : Int) % 3 = 1
  · rw [if_pos h2]
    have z0 := Int.emod_nonneg ((c.natAbs : Int) / 3) (show (6 : Int) ≠ 0 by decide)
    have z1 := Int.emod_lt_of_pos ((c.natAbs : Int) / 3) (show (0 : Int) < 6 by decide)
    generalize (c.natAbs : Int) / 3 % 6 = z at *
    rcases (by omega : z = 0 ∨ z = 1 ∨ z = 2 ∨ z = 3 ∨ z = 4 ∨ z = 5) with rfl | rfl | rfl | rfl | rfl | rfl <;> exact F _
  · rw [if_neg h2, Res.need_pos (cmulx (a := 80) (b := 60) (by omega) (by omega) (by decide))]
    exact F _
theorem cell_ex (ns : List Int) {k : Int} (hk : 0 ≤ k) : ∃ c, m_u_law_cell ns k = .ok c := by
  obtain ⟨j, rfl⟩ := Int.eq_ofNat_of_zero_le hk
  exact ⟨_, cell_ok ns j⟩

/-! ### a curve through two points -/
def Rs (p : Nat) (x : Int) : Prop := 0 ≤ x ∧ x < p
def On (p : Nat) (a b x y : Int) : Prop := (y * y - x * x * x - a * x - b) % (p : Int) = 0
instance (p : Nat) (a b x y : Int) : Decidable (On p a b x y) := inferInstanceAs (Decidable (_ = _))
theorem Rs.bd {p : Nat} [P : Pb p] {x : Int} (h : Rs p x) : Bd x 256 := ⟨by
  have := P.lt; have := h.1; have := h.2; omega⟩
theorem rs_mod {p : Nat} [P : Pb p] (x : Int) : Rs p (x % p) := ⟨Int.emod_nonneg _ (by have := P.pos; omega), Int.emod_lt_of_pos _ (by have := P.pos; omega)⟩
theorem on_z {p : Nat} {a b x y : Int} : On p a b x y ↔ zm p y * zm p y = zm p x * zm p x * zm p x + zm p a * zm p x + zm p b := by
  unfold On
  rw [← zm_zero]
  simp only [zm_sub, zm_mul]
  constructor <;> intro h <;> grind
theorem linv_z {p : Nat} (h : Pr p) (x : Int) (hx : zm p x ≠ 0) : zm p (x ^ (p - 2) % p) * zm p x = 1 := by
  rw [zm_mod, zm_pow]; exact z_inv h.pr hx
theorem zm_ne_of {p : Nat} {x y : Int} (hx : Rs p x) (hy : Rs p y) (h : x ≠ y) : zm p (x - y) ≠ 0 := fun e => h (res_eq hx.1 hx.2 hy.1 hy.2 (by
  rw [zm_sub] at e; grind))
theorem cap_ok {p : Nat} (h : Pr p) (ns : List Int) {at_ : Int} (ha : 0 ≤ at_) : ∃ a b x1 y1 x2 y2 : Int, m_u_law_curve_and_points ns at_ (p : Int) = .ok (T4.mk a b (T2.mk x1 y1) (T2.mk x2 y2)) ∧ Rs p a ∧ Rs p b ∧ Rs p x1 ∧ Rs p y1 ∧ Rs p x2 ∧ Rs p y2 ∧ On p a b x1 y1 ∧ On p a b x2 y2 := by
  have P : Pb p := h.pb
  have hp := h.pos
  obtain ⟨c0, d0⟩ := cell_ex ns ha
  obtain ⟨c1, d1⟩ := cell_ex ns (show 0 ≤ at_ + 1 by omega)
  obtain ⟨c2, d2⟩ := cell_ex ns (show 0 ≤ at_ + 2 by omega)
  obtain ⟨c3, d3⟩ := cell_ex ns (show 0 ≤ at_ + 3 by omega)
  obtain ⟨c4, d4⟩ := cell_ex ns (show 0 ≤ at_ + 4 by omega)
  obtain ⟨x1, e1, X1⟩ := residue_ok hp c0
  obtain ⟨y1, e2, Y1⟩ := residue_ok hp c1
  obtain ⟨x2, e3, X2⟩ := residue_ok hp c2
  obtain ⟨y2, e4, Y2⟩ := residue_ok hp c3
  obtain ⟨a, e5, A⟩ := residue_ok hp c4
  have X1 : Rs p x1 := X1
  have Y1 : Rs p y1 := Y1
  have X2 : Rs p x2 := X2
  have Y2 : Rs p y2 := Y2
  have A : Rs p a := A
  have := X1.bd
  have := Y1.bd
  have := X2.bd
  have := Y2.bd
  have := A.bd
  unfold m_u_law_curve_and_points
  simp (decide := true) only [Res.bind_ok, need_bind, d0, d1, d2, d3, d4, e1, e2, e3, e4, e5, need_bd, need_p, cond_dec, linv_ok h]
  have fin : ∀ (a y2 : Int), Rs p a → Rs p y2 → (∀ b, zm p b = zm p y1 * zm p y1 - zm p x1 * zm p x1 * zm p x1 - zm p a * zm p x1 → On p a b x2 y2) → ∃ a' b x1' y1' x2' y2' : Int, m_u_law_curve_and_points_k1 (p : Int) x1 y1 x2 (y2, a) = .ok (T4.mk a' b (T2.mk x1' y1') (T2.mk x2' y2')) ∧ Rs p a' ∧ Rs p b ∧ Rs p x1' ∧ Rs p y1' ∧ Rs p x2' ∧ Rs p y2' ∧ On p a' b x1' y1' ∧ On p a' b x2' y2' := by
    intro a y2 A Y2 hb
    have := A.bd
    unfold m_u_law_curve_and_points_k1
    simp (decide := true) only [Res.bind_ok, need_bind, need_bd, need_p]
    have zb : zm p ((y1 * y1 - x1 * x1 * x1 - a * x1) % p) = zm p y1 * zm p y1 - zm p x1 * zm p x1 * zm p x1 - zm p a * zm p x1 := by
      simp only [zm_mod, zm_sub, zm_mul]
    exact ⟨a, _, x1, y1, x2, y2, rfl, A, rs_mod _, X1, Y1, X2, Y2, on_z.mpr (by rw [zb]; grind), hb _ zb⟩
  by_cases hx : x1 = x2
  · subst hx
    rw [if_pos rfl]
    have z0 := Int.emod_nonneg (c3.natAbs : Int) (show (2 : Int) ≠ 0 by decide)
    have z1 := Int.emod_lt_of_pos (c3.natAbs : Int) (show (0 : Int) < 2 by decide)
    generalize (c3.natAbs : Int) % 2 = z at *
    rcases (by omega : z = 0 ∨ z = 1) with rfl | rfl
    · exact fin a y1 A Y1 fun b hb => on_z.mpr (by rw [hb]; grind)
    · exact fin a (-y1 % p) A (rs_mod _) fun b hb => on_z.mpr (by rw [hb, zm_mod, zm_neg]; grind)
  · rw [if_neg hx]
    have iv := linv_z h _ (zm_ne_of X2 X1 fun e => hx e.symm)
    refine fin _ y2 (rs_mod _) Y2 fun b hb => on_z.mpr ?_
    rw [hb]
    simp only [zm_mod, zm_mul, zm_sub, zm_add] at iv ⊢
    grind

/-! ### the greatest common divisor -/
theorem cof (p q X Y V M : Nat) (hq : 0 < q) (h : Y * p + X * q ≤ M) (hV : V ≤ X + p / q * Y) : V * q + Y * (p % q) ≤ M ∧ V ≤ M ∧ p / q * Y ≤ M := by
  have e : q * (p / q) + p % q = p := Nat.div_add_mod p q
  generalize p / q = t at *
  generalize p % q = r at *
  subst e
  have a1 : V * q ≤ (X + t * Y) * q := Nat.mul_le_mul_right q hV
  have a2 : (X + t * Y) * q = X * q + Y * (q * t) := by rw [Nat.add_mul]; congr 1; ac_rfl
  have a3 : Y * (q * t + r) = Y * (q * t) + Y * r := Nat.mul_add ..
  have a4 : V ≤ V * q := Nat.le_mul_of_pos_right _ hq
  have a5 : Y * (q * t) = q * (t * Y) := by ac_rfl
  have a6 : t * Y ≤ q * (t * Y) := Nat.le_mul_of_pos_left _ hq
  omega
theorem bez_step (k : (T3 Int Int Int) × (T3 Int Int Int) → Res (T3 Int Int Int)) (n : Nat) (f s : T3 Int Int Int) : m_bezout_w1 k (n + 1) (f, s) = if s.a = 0 then k (f, s) else Res.need (CDivW f.a s.a) (Res.need (CMulX (f.a / s.a) s.a) (Res.need (CMulX (f.a / s.a) s.b) (Res.need (CMulX (f.a / s.a) s.c) (m_bezout_w1 k n (s, T3.mk (f.a - f.a / s.a * s.a) (f.b - f.a / s.a * s.b) (f.c - f.a / s.a * s.c)))))) := by
  rw [m_bezout_w1]
  simp only [Res.bind_ok, need_bind, cond_not, cond_dec]
theorem natAbs_sub_mul (u t v : Int) : (u - t * v).natAbs ≤ u.natAbs + t.natAbs * v.natAbs := by
  rw [← Int.natAbs_mul]; omega
theorem gcd_step {p q : Int} : Int.gcd q (p - p / q * q) = Int.gcd p q := by
  rw [Int.mul_comm, Int.gcd_sub_mul_left_right, Int.gcd_comm]
theorem bez_loop {a b : Int} {M B : Nat} (hM : M < 2 ^ B) (hB0 : 0 < B) (hB : B ≤ 8000) (k : (T3 Int Int Int) × (T3 Int Int Int) → Res (T3 Int Int Int)) : ∀ (fuel : Nat) (f s : T3 Int Int Int), 0 ≤ f.a → 0 ≤ s.a → s.a < fuel → f.a.natAbs ≤ M → s.a.natAbs ≤ M → f.b.natAbs ≤ M → s.b.natAbs ≤ M → f.c.natAbs ≤ M → s.c.natAbs ≤ M →
    s.b.natAbs * f.a.natAbs + f.b.natAbs * s.a.natAbs ≤ M → s.c.natAbs * f.a.natAbs + f.c.natAbs * s.a.natAbs ≤ M → f.a = a * f.b + b * f.c → s.a = a * s.b + b * s.c →
    ∃ g s', m_bezout_w1 k fuel (f, s) = k (g, s') ∧ g.a = (Int.gcd f.a s.a : Int) ∧ g.a = a * g.b + b * g.c := by
  intro fuel
  induction fuel with
  | zero => intro f s h0 h1 h2; omega
  | succ n ih =>
    intro f s h0 h1 h2 h3 h4 h5 h6 h7 h8 h9 h10 h11 h12
    rw [bez_step]
    by_cases hs : s.a = 0
    · rw [if_pos hs]
      exact ⟨f, s, rfl, by rw [hs, Int.gcd_zero_right]; omega, h11⟩
    · rw [if_neg hs]
      have hp : 0 < s.a := by omega
      have ht : (f.a / s.a).natAbs = f.a.natAbs / s.a.natAbs := by
        rw [Int.natAbs_ediv_of_nonneg h0]
      have hr : f.a - f.a / s.a * s.a = f.a % s.a := by
        have := Int.emod_add_mul_ediv f.a s.a
        rw [Int.mul_comm (f.a / s.a)]; omega
      have hrn : (f.a % s.a).natAbs = f.a.natAbs % s.a.natAbs := by
        rw [Int.natAbs_emod_of_nonneg h0]
      have hq : 0 < s.a.natAbs := by omega
      have c1 := cof f.a.natAbs s.a.natAbs f.b.natAbs s.b.natAbs (f.b - f.a / s.a * s.b).natAbs M hq h9 (by rw [← ht]; exact natAbs_sub_mul ..)
      have c2 := cof f.a.natAbs s.a.natAbs f.c.natAbs s.c.natAbs (f.c - f.a / s.a * s.c).natAbs M hq h10 (by rw [← ht]; exact natAbs_sub_mul ..)
      have ht2 : (f.a / s.a).natAbs ≤ M := by rw [ht]; exact Nat.le_trans (Nat.div_le_self ..) h3
      have lt := fun {x : Int} (h : x.natAbs ≤ M) => (show x.natAbs < 2 ^ B by omega)
      rw [Res.need_pos (wide_div hp (lt h4) hB0 (by omega)), need_mulx (lt ht2) (lt h4) (by omega), need_mulx (lt ht2) (lt h6) (by omega), need_mulx (lt ht2) (lt h8) (by omega)]
      have e0 := Int.emod_nonneg f.a (show s.a ≠ 0 by omega)
      have e1 := Int.emod_lt_of_pos f.a hp
      obtain ⟨g, s', q1, q2, q3⟩ := ih s (T3.mk (f.a - f.a / s.a * s.a) (f.b - f.a / s.a * s.b) (f.c - f.a / s.a * s.c)) h1 (by show 0 ≤ f.a - f.a / s.a * s.a; rw [hr]; exact e0) (by show f.a - f.a / s.a * s.a < _; rw [hr]; omega) h4 (by show (f.a - f.a / s.a * s.a).natAbs ≤ M; rw [hr]; omega) h6 c1.2.1 h8 c2.2.1
        (by show (f.b - f.a / s.a * s.b).natAbs * s.a.natAbs + s.b.natAbs * (f.a - f.a / s.a * s.a).natAbs ≤ M; rw [hr, hrn]; exact c1.1)
        (by show (f.c - f.a / s.a * s.c).natAbs * s.a.natAbs + s.c.natAbs * (f.a - f.a / s.a * s.a).natAbs ≤ M; rw [hr, hrn]; exact c2.1)
        h12 (by
          show f.a - f.a / s.a * s.a = a * (f.b - f.a / s.a * s.b) + b * (f.c - f.a / s.a * s.c)
          generalize f.a / s.a = t
          rw [h11, h12]; grind)
      exact ⟨g, s', q1, by rw [q2]; show ((Int.gcd s.a (f.a - f.a / s.a * s.a) : Nat) : Int) = _; rw [gcd_step], q3⟩
theorem inv_ok {a m : Int} {B : Nat} (hm : 0 < m) (hb : m.natAbs < 2 ^ B) (hB : B ≤ 8000) : (Int.gcd a m = 1 → ∃ i, m_inverse a m = .ok i ∧ 0 ≤ i ∧ i < m ∧ m ∣ a * i - 1) ∧ (Int.gcd a m ≠ 1 → m_inverse a m = .exc "NoInverse") := by
  have e0 := Int.emod_nonneg a (show m ≠ 0 by omega)
  have e1 := Int.emod_lt_of_pos a hm
  have hB0 : 0 < B := by
    rcases Nat.eq_zero_or_pos B with z | z
    · subst z; simp at hb; omega
    · exact z
  obtain ⟨g, s', q1, q2, q3⟩ := bez_loop (a := a % m) (b := m) (M := m.natAbs) hb hB0 hB m_bezout_k3 (m.natAbs + 1) (T3.mk (a % m) 1 0) (T3.mk m 0 1) e0 (by show 0 ≤ m; omega) (by show m < _; omega) (by show (a % m).natAbs ≤ _; omega) (by show m.natAbs ≤ _; omega) (by show 1 ≤ _; omega) (by show 0 ≤ _; omega) (by show 0 ≤ _; omega) (by show 1 ≤ _; omega)
    (by show 0 * (a % m).natAbs + 1 * m.natAbs ≤ _; omega) (by show 1 * (a % m).natAbs + 0 * m.natAbs ≤ _; omega) (by show a % m = a % m * 1 + m * 0; omega) (by show m = a % m * 0 + m * 1; omega)
  have q2 : g.a = (Int.gcd (a % m) m : Int) := q2
  have eg : Int.gcd (a % m) m = Int.gcd a m := by
    have : a % m = a - m * (a / m) := by have := Int.emod_add_mul_ediv a m; omega
    rw [this, Int.gcd_comm, Int.gcd_sub_mul_left_right, Int.gcd_comm]
  rw [eg] at q2
  have hbz : m_bezout (a % m) m = .ok g := by
    unfold m_bezout
    simp only [Res.bind_ok]
    rw [q1]
    unfold m_bezout_k3
    simp only [Res.bind_ok, cond_dec]
    rw [if_neg (by omega)]
  clear q1
  unfold m_inverse
  simp only [Res.bind_ok, need_bind, cond_not, cond_dec, Res.need_pos hm, hbz]
  constructor
  · intro h1
    rw [if_pos (by omega)]
    refine ⟨_, rfl, Int.emod_nonneg _ (by omega), Int.emod_lt_of_pos _ hm, ?_⟩
    have h2 : a % m * g.b + m * g.c = 1 := by omega
    have h3 := Int.emod_add_mul_ediv a m
    have h4 := Int.emod_add_mul_ediv g.b m
    generalize a % m = r at *
    generalize a / m = t at *
    generalize g.b % m = u at *
    generalize g.b / m = v at *
    refine ⟨t * u - r * v - g.c, ?_⟩
    rw [← h3]
    have h5 : u = g.b - m * v := by omega
    rw [h5]
    grind
  · intro h1
    rw [if_neg (by omega)]

theorem init_ok {p : Nat} (h : Pr p) (h5 : 5 ≤ p) (a b : Int) : m_Curve_init (p : Int) a b = if (4 * (a % p) ^ 3 + 27 * (b % p) ^ 2) % (p : Int) = 0 then .exc "Refused" else .ok ⟨p, a % p, b % p⟩ := by
  have P := h.pb
  have ho := h.odd
  have c1 : decide ((p : Int) < 5) = false := decide_eq_false (by omega)
  have c2 : decide ((p : Int) % 2 = 0) = false := decide_eq_false (by omega)
  unfold m_Curve_init
  simp (decide := true) only [Res.bind_ok, c1, c2, cond_false, need_bind, need_p, need_pw3, need_pw2, tn3, tn2, cond_dec]
theorem init_bad {m : Int} (h : m < 5 ∨ m % 2 = 0) (a b : Int) : m_Curve_init m a b = .exc "OutOfRange" := by
  unfold m_Curve_init
  simp only [Res.bind_ok]
  by_cases c : m < 5
  · simp only [decide_eq_true c, cond_true, Res.bind_ok]
  · simp only [decide_eq_false c, cond_false, Res.bind_ok, decide_eq_true (h.resolve_left c), cond_true]
theorem lsing_ok {p : Nat} [Pb p] {a b : Int} [Bd a 256] [Bd b 256] : m_u_law_singular (p : Int) a b = .ok (decide ((4 * a ^ 3 + 27 * b ^ 2) % (p : Int) = 0)) := by
  unfold m_u_law_singular
  simp (decide := true) only [Res.bind_ok, need_bind, need_bd, need_p]
  rw [Int.pow_succ, ipow2, ipow2, show 4 * a * a * a + 27 * b * b = 4 * (a * a * a) + 27 * (b * b) by grind]
theorem on_neg {p : Nat} {a b x y : Int} (h : On p a b x y) : On p a b x (-y % p) := by
  rw [on_z] at h ⊢
  rw [zm_mod, zm_neg]; grind
/-! ### the inverse modulo a prime -/
theorem pinv {p : Nat} (h : Pr p) (a : Int) (ha : zm p a ≠ 0) : ∃ i, m_inverse a (p : Int) = .ok i ∧ Rs p i ∧ zm p i * zm p a = 1 := by
  have hp := h.pos
  have hg : Int.gcd a (p : Int) = 1 := by
    have : Nat.Coprime p a.natAbs := h.pr.cop fun d => ha (zm_dvd.mpr (Int.ofNat_dvd_left.mpr d))
    show Nat.gcd a.natAbs p = 1
    rw [Nat.gcd_comm]; exact this
  obtain ⟨i, e, i0, i1, i2⟩ := (inv_ok (a := a) (m := p) (B := 256) hp (by rw [Int.natAbs_natCast]; exact h.lt) (by decide)).1 hg
  refine ⟨i, e, ⟨i0, i1⟩, ?_⟩
  have := zm_dvd.mpr i2
  rw [zm_sub, zm_mul] at this
  have t : zm p 1 = 1 := rfl
  rw [t] at this
  grind
theorem pinv_f {p : Nat} [Prm p] (h : Pr p) (a : Int) (ha : zm p a ≠ 0) : ∃ i, m_inverse a (p : Int) = .ok i ∧ Rs p i ∧ zm p i = (zm p a)⁻¹ := by
  obtain ⟨i, e, r, q⟩ := pinv h a ha
  refine ⟨i, e, r, ?_⟩
  have := z_mul_inv ha
  grind
/-! ### points as the program keeps them -/
class CvP (C : Cv) : Prop where
  pr : Pr C.p
instance (C : Cv) [h : CvP C] : Pb C.p := h.pr.pb
abbrev P2 := Option (T2 Int Int)
def lfv {p : Nat} : Mi.Pt (Zp p) → P2
  | none => none
  | some (x, y) => some (T2.mk (zv x) (zv y))
def lf {C : Cv} (P : C.Pt) : P2 := lfv P.v
abbrev Cv.o (C : Cv) : O_Curve := ⟨C.p, C.a, C.b⟩
theorem lfv_inj {p : Nat} {P Q : Mi.Pt (Zp p)} (h : lfv P = lfv Q) : P = Q := by
  cases P with
  | none => cases Q with
    | none => rfl
    | some q => cases h
  | some r => cases Q with
    | none => cases h
    | some q =>
      obtain ⟨x1, y1⟩ := r
      obtain ⟨x2, y2⟩ := q
      have h := Option.some.inj h
      rw [zv_inj (congrArg T2.a h), zv_inj (congrArg T2.b h)]
section
variable {C : Cv}
theorem lf_inj {P Q : C.Pt} (h : lf P = lf Q) : P = Q := Cv.ext (lfv_inj h)
theorem lf_zero : lf (0 : C.Pt) = none := rfl
theorem lf_none {P : C.Pt} (h : lf P = none) : P = 0 := lf_inj h
theorem toD_some2 (x y : Int) : toD (some (T2.mk x y)) = D.tup [D.int x, D.int y] := rfl
theorem toD_T2 (x y : Int) : toD (T2.mk x y) = D.tup [D.int x, D.int y] := rfl
theorem toD_none2 : toD (none : P2) = D.non := rfl
theorem okq_p2 (P : P2) : (toD P).okq = true := by
  cases P with
  | none => rfl
  | some q => obtain ⟨x, y⟩ := q; rfl
theorem okq_t2 (q : T2 Int Int) : (toD q).okq = true := by obtain ⟨x, y⟩ := q; rfl
theorem nob_p2 (P : P2) : (toD P).nob = true := by
  cases P with
  | none => rfl
  | some q => obtain ⟨x, y⟩ := q; rfl
theorem toD_p2_inj {P Q : P2} (h : toD P = toD Q) : P = Q := by
  cases P with
  | none => cases Q with
    | none => rfl
    | some q => obtain ⟨x, y⟩ := q; rw [toD_none2, toD_some2] at h; cases h
  | some r => cases Q with
    | none => obtain ⟨x, y⟩ := r; rw [toD_none2, toD_some2] at h; cases h
    | some q =>
      obtain ⟨x1, y1⟩ := r
      obtain ⟨x2, y2⟩ := q
      rw [toD_some2, toD_some2] at h
      simp only [D.tup.injEq, List.cons.injEq, D.int.injEq, and_true] at h
      rw [h.1, h.2]
theorem pyEq_p2 (P Q : P2) : pyEq (toD P) (toD Q) = true ↔ P = Q := (pyEq_dec (nob_p2 P) (nob_p2 Q)).trans ⟨toD_p2_inj, fun h => by rw [h]⟩
noncomputable instance : DecidableEq C.Pt := fun a b => Classical.propDecidable _
theorem pyEq_lf (P Q : C.Pt) : pyEq (toD (lf P)) (toD (lf Q)) = decide (P = Q) := by
  by_cases h : P = Q
  · rw [decide_eq_true h, h]; exact (pyEq_p2 _ _).mpr rfl
  · rw [decide_eq_false h]
    cases e : pyEq (toD (lf P)) (toD (lf Q)) with
    | false => rfl
    | true => exact absurd (lf_inj ((pyEq_p2 _ _).mp e)) h
theorem pyEq_t2 (P Q : T2 Int Int) : pyEq (toD P) (toD Q) = true ↔ P = Q := (pyEq_p2 (some P) (some Q)).trans ⟨Option.some.inj, fun h => by rw [h]⟩
theorem isNon_lf0 : (toD (lf (0 : C.Pt))).isNon = true := rfl
theorem isNon_lf {P : C.Pt} (h : P ≠ 0) : (toD (lf P)).isNon = false := by
  cases e : lf P with
  | none => exact absurd (lf_none e) h
  | some q => obtain ⟨x, y⟩ := q; rfl
/-- the coordinates of a point -/
theorem lf_some {P : C.Pt} {x y : Int} (h : lf P = some (T2.mk x y)) : Rs C.p x ∧ Rs C.p y ∧ On C.p C.a C.b x y ∧ P.v = some (zm C.p x, zm C.p y) := by
  obtain ⟨v, on⟩ := P
  cases v with
  | none => cases h
  | some q =>
    obtain ⟨u, w⟩ := q
    have h : T2.mk (zv u) (zv w) = T2.mk x y := Option.some.inj h
    have hx : zv u = x := congrArg T2.a h
    have hy : zv w = y := congrArg T2.b h
    subst hx hy
    refine ⟨⟨zv_ge u, zv_lt u⟩, ⟨zv_ge w, zv_lt w⟩, ?_, ?_⟩
    · rw [on_z, zm_zv, zm_zv]; exact on
    · show some (u, w) = some (_, _)
      rw [zm_zv, zm_zv]
theorem lf_ex {x y : Int} (hx : Rs C.p x) (hy : Rs C.p y) (ho : On C.p C.a C.b x y) : ∃ P : C.Pt, lf P = some (T2.mk x y) ∧ P.v = some (zm C.p x, zm C.p y) :=
  ⟨⟨some (zm C.p x, zm C.p y), on_z.mp ho⟩, by
    show some (T2.mk (zv (zm C.p x)) (zv (zm C.p y))) = _
    rw [zv_of hx.1 hx.2, zv_of hy.1 hy.2], rfl⟩
theorem Cv.A (C : Cv) : Rs C.p C.a := ⟨C.a0, C.a1⟩
theorem Cv.B (C : Cv) : Rs C.p C.b := ⟨C.b0, C.b1⟩
theorem lf_neg {P : C.Pt} {x y : Int} (h : lf P = some (T2.mk x y)) : lf (-P) = some (T2.mk x (-y % C.p)) := by
  obtain ⟨hx, hy, ho, hv⟩ := lf_some h
  have : (-P).v = some (zm C.p x, -zm C.p y) := by
    show pneg P.v = _
    rw [hv]; rfl
  show lfv (-P).v = _
  rw [this]
  show some (T2.mk (zv (zm C.p x)) (zv (-zm C.p y))) = _
  rw [zv_of hx.1 hx.2, ← zm_neg, zv_zm]
def IsSl (C : Cv) (x1 y1 x2 y2 s : Int) : Prop := (zm C.p x1 = zm C.p x2 → zm C.p s = (3 * zm C.p x1 * zm C.p x1 + zm C.p C.a) * (2 * zm C.p y1)⁻¹) ∧ (zm C.p x1 ≠ zm C.p x2 → zm C.p s = (zm C.p y2 - zm C.p y1) * (zm C.p x2 - zm C.p x1)⁻¹)
/-- the sum by its coordinates -/
theorem lf_add {P Q : C.Pt} {x1 y1 x2 y2 s : Int} (h1 : lf P = some (T2.mk x1 y1)) (h2 : lf Q = some (T2.mk x2 y2)) (hn : Q ≠ -P)
    (hs : IsSl C x1 y1 x2 y2 s) :
    lf (P + Q) = some (T2.mk ((s * s - x1 - x2) % C.p) ((s * (x1 - (s * s - x1 - x2) % C.p) - y1) % C.p)) := by
  obtain ⟨X1, Y1, O1, v1⟩ := lf_some h1
  obtain ⟨X2, Y2, O2, v2⟩ := lf_some h2
  have e : (P + Q).v = padd (zm C.p C.a) P.v Q.v := rfl
  rw [v1, v2, padd_eq, if_neg] at e
  · dsimp only at e
    have hs2 : zm C.p s = @ite _ (zm C.p x1 = zm C.p x2) (Classical.propDecidable _) ((3 * zm C.p x1 * zm C.p x1 + zm C.p C.a) * (2 * zm C.p y1)⁻¹) ((zm C.p y2 - zm C.p y1) * (zm C.p x2 - zm C.p x1)⁻¹) := by
      by_cases c : zm C.p x1 = zm C.p x2
      · rw [if_pos c]; exact hs.1 c
      · rw [if_neg c]; exact hs.2 c
    rw [← hs2] at e
    show lfv (P + Q).v = _
    rw [e]
    show some (T2.mk (zv _) (zv _)) = _
    congr 2
    rw [← zv_zm]
    congr 1
    simp only [zm_sub, zm_mul, zm_mod]
  · rintro ⟨c1, c2⟩
    apply hn
    apply Cv.ext
    show Q.v = pneg P.v
    rw [v1, v2]
    show some (_, _) = some (_, _)
    rw [c1, show zm C.p y2 = -zm C.p y1 by grind]
theorem lf_ne {P Q : C.Pt} {x1 y1 x2 y2 : Int} (h1 : lf P = some (T2.mk x1 y1)) (h2 : lf Q = some (T2.mk x2 y2)) (hn : Q ≠ -P) (hx : x1 = x2) : P = Q ∧ y1 = y2 ∧ zm C.p y1 ≠ 0 := by
  subst hx
  obtain ⟨X1, Y1, O1, v1⟩ := lf_some h1
  obtain ⟨X2, Y2, O2, v2⟩ := lf_some h2
  have o1 := on_z.mp O1
  have o2 := on_z.mp O2
  have d : (zm C.p y1 - zm C.p y2) * (zm C.p y1 + zm C.p y2) = 0 := by grind
  have hneg : zm C.p y1 + zm C.p y2 ≠ 0 := by
    intro c2
    apply hn
    apply Cv.ext
    show Q.v = pneg P.v
    rw [v1, v2]
    show some (_, _) = some (_, _)
    rw [show zm C.p y2 = -zm C.p y1 by grind]
  have e : zm C.p y1 = zm C.p y2 := by
    rcases z_dom C.pr d with q | q
    · grind
    · exact absurd q hneg
  refine ⟨Cv.ext (by rw [v1, v2, e]), res_eq Y1.1 Y1.2 Y2.1 Y2.2 e, fun z => hneg ?_⟩
  rw [← e, z]; grind
/-! ### the law's own sum -/
theorem linv_f {p : Nat} [Prm p] (h : Pr p) (x : Int) (hx : zm p x ≠ 0) : ∃ i, m_u_law_inverse x (p : Int) = .ok i ∧ Rs p i ∧ zm p i = (zm p x)⁻¹ := by
  have P := h.pb
  refine ⟨_, linv_ok h x, rs_mod _, ?_⟩
  have a := linv_z h x hx
  have := z_mul_inv hx
  grind
theorem ladd_ok [hC : CvP C] (P Q : C.Pt) : m_u_law_add (C.p : Int) C.a (lf P) (lf Q) = .ok (lf (P + Q)) := by
  unfold m_u_law_add
  by_cases hP : P = 0
  · subst hP
    simp only [Res.bind_ok, isNon_lf0, cond_true, g_zero_add]
  by_cases hQ : Q = 0
  · subst hQ
    simp only [Res.bind_ok, isNon_lf0, isNon_lf hP, cond_true, cond_false, g_add_zero]
  simp only [Res.bind_ok, isNon_lf hP, isNon_lf hQ, cond_false]
  cases e1 : lf P with
  | none => exact absurd (lf_none e1) hP
  | some q =>
  cases e2 : lf Q with
  | none => exact absurd (lf_none e2) hQ
  | some r =>
  obtain ⟨x1, y1⟩ := q
  obtain ⟨x2, y2⟩ := r
  obtain ⟨X1, Y1, O1, v1⟩ := lf_some e1
  obtain ⟨X2, Y2, O2, v2⟩ := lf_some e2
  have := X1.bd
  have := X2.bd
  have := Y1.bd
  have := Y2.bd
  have := (Cv.A C).bd
  have og : ∀ z : T2 Int Int, optGet (some z) = .ok z := fun _ => rfl
  have dg : (x1 = x2 ∧ (y1 + y2) % (C.p : Int) = 0) ↔ Q = -P := by
    constructor
    · rintro ⟨c1, c2⟩
      apply lf_inj
      rw [e2, lf_neg e1, c1]
      have : y2 = -y1 % C.p := res_eq Y2.1 Y2.2 (rs_mod _).1 (rs_mod _).2 (by
        have := zm_zero.mpr c2
        rw [zm_add] at this
        rw [zm_mod, zm_neg]; grind)
      rw [this]
    · intro c
      rw [c, lf_neg e1] at e2
      have e2 := Option.some.inj e2
      refine ⟨congrArg T2.a e2, ?_⟩
      have : -y1 % (C.p : Int) = y2 := congrArg T2.b e2
      rw [← this, ← zm_zero, zm_add, zm_mod, zm_neg]; grind
  have fin : ∀ s : Int, Rs C.p s → IsSl C x1 y1 x2 y2 s → Q ≠ -P → m_u_law_add_k4 (C.p : Int) x1 y1 x2 s = .ok (lf (P + Q)) := by
    intro s rs hs hn
    have := rs.bd
    unfold m_u_law_add_k4
    simp (decide := true) only [Res.bind_ok, need_bind, need_bd, need_p]
    rw [lf_add e1 e2 hn hs]
  by_cases hn : Q = -P
  · obtain ⟨c1, c2⟩ := dg.mpr hn
    simp (decide := true) only [Res.bind_ok, og, need_bind, need_bd, need_p, decide_eq_true c1, decide_eq_true c2, cond_true]
    rw [hn, g_add_neg]; rfl
  · have hd := mt dg.mp hn
    by_cases hx : x1 = x2
    · have c2 : ¬ (y1 + y2) % (C.p : Int) = 0 := fun z => hd ⟨hx, z⟩
      obtain ⟨f1, f2, f3⟩ := lf_ne e1 e2 hn hx
      have hr : zm C.p (2 * y1) ≠ 0 := by rw [zm_mul]; exact z_mul_ne C.pr C.two f3
      obtain ⟨i, a1, a2, a3⟩ := linv_f hC.pr (2 * y1) hr
      have := a2.bd
      simp (decide := true) only [Res.bind_ok, og, need_bind, need_bd, need_p, decide_eq_true hx, decide_eq_false c2, cond_true, cond_false, a1]
      refine fin _ (rs_mod _) ⟨fun _ => ?_, fun z => absurd (by rw [hx]) z⟩ hn
      rw [zm_mod, zm_mul, a3, zm_add, zm_mul, zm_mul]
      rfl
    · have hne : zm C.p x1 ≠ zm C.p x2 := fun e => hx (res_eq X1.1 X1.2 X2.1 X2.2 e)
      have hr : zm C.p (x2 - x1) ≠ 0 := by rw [zm_sub]; grind
      obtain ⟨i, a1, a2, a3⟩ := linv_f hC.pr (x2 - x1) hr
      have := a2.bd
      simp (decide := true) only [Res.bind_ok, og, need_bind, need_bd, need_p, decide_eq_false hx, cond_false, a1]
      refine fin _ (rs_mod _) ⟨fun z => absurd z hne, fun _ => ?_⟩ hn
      rw [zm_mod, zm_mul, a3, zm_sub, zm_sub]
end

/-! ### the curve of a law -/
theorem nosing_of {p : Nat} {a b : Int} (h : ¬ (4 * a ^ 3 + 27 * b ^ 2) % (p : Int) = 0) : NoSing (zm p a) (zm p b) := by
  intro e
  apply h
  rw [← zm_zero, Int.pow_succ, ipow2, ipow2, zm_add, zm_mul, zm_mul, zm_mul, zm_mul, zm_mul]
  have e : (4 : Zp p) * zm p a * zm p a * zm p a + 27 * zm p b * zm p b = 0 := e
  show (4 : Zp p) * _ + (27 : Zp p) * _ = 0
  grind
theorem cv_ex {p : Nat} (h : Pr p) (h5 : 5 ≤ p) {a b : Int} (A : Rs p a) (B : Rs p b) (hs : ¬ (4 * a ^ 3 + 27 * b ^ 2) % (p : Int) = 0) : ∃ C : Cv, CvP C ∧ C.p = p ∧ C.a = a ∧ C.b = b :=
  ⟨⟨p, a, b, h.pr, h5, A.1, A.2, B.1, B.2, nosing_of hs⟩, ⟨h⟩, rfl, rfl, rfl⟩
/-- the law's curve: singular, or a curve with two points -/
theorem curve_ex {p : Nat} (h : Pr p) (h5 : 5 ≤ p) (ns : List Int) {at_ : Int} (hat : 0 ≤ at_) : ∃ a b x1 y1 x2 y2 : Int, m_u_law_curve_and_points ns at_ (p : Int) = .ok (T4.mk a b (T2.mk x1 y1) (T2.mk x2 y2)) ∧
    (m_u_law_singular (p : Int) a b = .ok true ∨ m_u_law_singular (p : Int) a b = .ok false ∧ ∃ (C : Cv) (P Q : C.Pt), CvP C ∧ C.p = p ∧ C.a = a ∧ C.b = b ∧ m_Curve_init (p : Int) a b = .ok C.o ∧ lf P = some (T2.mk x1 y1) ∧ lf Q = some (T2.mk x2 y2)) := by
  have Pb := h.pb
  obtain ⟨a, b, x1, y1, x2, y2, cp, A, B, X1, Y1, X2, Y2, O1, O2⟩ := cap_ok h ns hat
  refine ⟨a, b, x1, y1, x2, y2, cp, ?_⟩
  have := A.bd
  have := B.bd
  by_cases hs : (4 * a ^ 3 + 27 * b ^ 2) % (p : Int) = 0
  · exact .inl (by rw [lsing_ok, decide_eq_true hs])
  · refine .inr ⟨by rw [lsing_ok, decide_eq_false hs], ?_⟩
    have ini := init_ok h h5 a b
    rw [Int.emod_eq_of_lt A.1 A.2, Int.emod_eq_of_lt B.1 B.2, if_neg hs] at ini
    obtain ⟨C, hc, e1, e2, e3⟩ := cv_ex h h5 A B hs
    subst e1 e2 e3
    obtain ⟨P, p1, _⟩ := lf_ex X1 Y1 O1
    obtain ⟨Q, q1, _⟩ := lf_ex X2 Y2 O2
    exact ⟨C, P, Q, hc, rfl, rfl, rfl, ini, p1, q1⟩

/-! ### Jacobian coordinates -/
section
variable {p : Nat}
theorem z_assoc (a b c : Zp p) : a * b * c = a * (b * c) := by grind
theorem z_u (x z u : Zp p) : x * (z * z) * u * u = x * (z * u * (z * u)) := by grind
theorem z_u' (x z u : Zp p) : x * (u * u) * z * z = x * (z * u * (z * u)) := by grind
theorem z_s (x z u : Zp p) : x * (z * z * z) * u * u * u = x * (z * u * (z * u) * (z * u)) := by grind
theorem z_s' (x z u : Zp p) : x * (u * u * u) * z * z * z = x * (z * u * (z * u) * (z * u)) := by grind
theorem z_d (x y w : Zp p) : x * w - y * w = w * (x - y) := by grind
theorem z_d0 (x : Zp p) : 0 * x = 0 := by grind
theorem z_c (x y : Zp p) : x * y = y * x := by grind
theorem z_0 (x : Zp p) : x - x = 0 := by grind
theorem z_e {x y : Zp p} (h : x - y = 0) : x = y := by grind
theorem jd_x {x y z l a X Y s m X3 Z3 : Zp p} (hl : l * (y + y) = x * x + x * x + x * x + a) (hX : X = x * (z * z)) (hY : Y = y * (z * z * z)) (hs : s = 4 * X * Y * Y) (hm : m = 3 * X * X + a * z * z * z * z) (h3 : X3 = m * m - 2 * s) (hz : Z3 = 2 * Y * z) :
    X3 = (l * l - x - x) * (Z3 * Z3) := by
  have ea : a = l * (y + y) - (x * x + x * x + x * x) := by grind
  subst ea hX hY hs hm h3 hz
  grind
theorem jd_y {x y z l a X Y s m X3 Y3 Z3 : Zp p} (hl : l * (y + y) = x * x + x * x + x * x + a) (hX : X = x * (z * z)) (hY : Y = y * (z * z * z)) (hs : s = 4 * X * Y * Y) (hm : m = 3 * X * X + a * z * z * z * z) (h3 : X3 = (l * l - x - x) * (Z3 * Z3)) (hz : Z3 = 2 * Y * z) (h4 : Y3 = m * (s - X3) - 8 * Y * Y * Y * Y) :
    Y3 = (l * (x - (l * l - x - x)) - y) * (Z3 * Z3 * Z3) := by
  have ea : a = l * (y + y) - (x * x + x * x + x * x) := by grind
  subst ea hX hY hs hm h3 hz h4
  grind
theorem js_x {x1 y1 x2 y2 w l u1 u2 s1 s2 h r X3 Z3 : Zp p} (hl : y2 - y1 = l * (x2 - x1)) (h1 : u1 = x1 * (w * w)) (h2 : u2 = x2 * (w * w)) (h3 : s1 = y1 * (w * w * w)) (h4 : s2 = y2 * (w * w * w)) (hh : h = u2 - u1) (hr : r = s2 - s1) (hX : X3 = r * r - h * h * h - 2 * u1 * h * h) (hz : Z3 = h * w) :
    X3 = (l * l - x1 - x2) * (Z3 * Z3) := by
  have e : y2 = y1 + l * (x2 - x1) := by grind
  subst e h1 h2 h3 h4 hh hr hX hz
  grind
theorem js_y {x1 y1 x2 y2 w l u1 u2 s1 s2 h r X3 Y3 Z3 : Zp p} (hl : y2 - y1 = l * (x2 - x1)) (h1 : u1 = x1 * (w * w)) (h2 : u2 = x2 * (w * w)) (h3 : s1 = y1 * (w * w * w)) (h4 : s2 = y2 * (w * w * w)) (hh : h = u2 - u1) (hr : r = s2 - s1) (hX : X3 = (l * l - x1 - x2) * (Z3 * Z3)) (hz : Z3 = h * w) (hY : Y3 = r * (u1 * h * h - X3) - s1 * h * h * h) :
    Y3 = (l * (x1 - (l * l - x1 - x2)) - y1) * (Z3 * Z3 * Z3) := by
  have e : y2 = y1 + l * (x2 - x1) := by grind
  subst e h1 h2 h3 h4 hh hr hX hz hY
  grind
end
abbrev I3 := T3 Int Int Int
structure Rs3 (p : Nat) (t : I3) : Prop where
  a : Rs p t.a
  b : Rs p t.b
  c : Rs p t.c
/-- the triple stands for the point -/
def Jc (C : Cv) (t : I3) (P : C.Pt) : Prop := (t.c = 0 ∧ P = 0) ∨ (t.c ≠ 0 ∧ ∃ x y, P.v = some (x, y) ∧ zm C.p t.a = x * (zm C.p t.c * zm C.p t.c) ∧ zm C.p t.b = y * (zm C.p t.c * zm C.p t.c * zm C.p t.c))
section
variable {C : Cv}
theorem Jc.zero {t : I3} (h : t.c = 0) : Jc C t 0 := .inl ⟨h, rfl⟩
theorem zm_ne {x : Int} (hx : Rs C.p x) (h : x ≠ 0) : zm C.p x ≠ 0 := fun e => h (res_eq hx.1 hx.2 (Int.le_refl 0) (by have := C.ge; omega) e)
theorem some_ne0 {P : C.Pt} {q : Zp C.p × Zp C.p} (h : P.v = some q) : P ≠ 0 := fun e => by rw [e] at h; cases h
theorem ne0_some {P : C.Pt} (h : P ≠ 0) : ∃ x y, P.v = some (x, y) := by
  cases e : P.v with
  | none => exact absurd (Cv.ext e) h
  | some q => exact ⟨q.1, q.2, rfl⟩
/-- the double by its slope -/
theorem dbl_v {P : C.Pt} {x y : Zp C.p} (h : P.v = some (x, y)) (hy : y ≠ 0) : ∃ l, l * (y + y) = x * x + x * x + x * x + zm C.p C.a ∧ (P + P).v = some (l * l - x - x, l * (x - (l * l - x - x)) - y) := by
  have on := P.on
  rw [h] at on
  have hn : ¬ (x = x ∧ y + y = 0) := fun z => by
    have : 2 * y = 0 := by have := z.2; grind
    exact z_mul_ne C.pr C.two hy this
  obtain ⟨l, sl, e⟩ := slp_ex C.two on on hn
  refine ⟨l, sl.2, ?_⟩
  show padd _ P.v P.v = _
  rw [h]; exact e
theorem dbl_0 {P : C.Pt} {x : Zp C.p} (h : P.v = some (x, 0)) : P + P = 0 := by
  apply Cv.ext
  show padd _ P.v P.v = none
  rw [h, padd_eq, if_pos ⟨rfl, by grind⟩]
theorem add_v {P Q : C.Pt} {x1 y1 x2 y2 : Zp C.p} (h1 : P.v = some (x1, y1)) (h2 : Q.v = some (x2, y2)) (hx : x1 ≠ x2) : ∃ l, y2 - y1 = l * (x2 - x1) ∧ (P + Q).v = some (l * l - x1 - x2, l * (x1 - (l * l - x1 - x2)) - y1) := by
  have o1 := P.on
  have o2 := Q.on
  rw [h1] at o1
  rw [h2] at o2
  obtain ⟨l, sl, e⟩ := slp_ex C.two o1 o2 (fun z => hx z.1)
  refine ⟨l, sl.1, ?_⟩
  show padd _ P.v Q.v = _
  rw [h1, h2]; exact e
theorem same_x {P Q : C.Pt} {x y1 y2 : Zp C.p} (h1 : P.v = some (x, y1)) (h2 : Q.v = some (x, y2)) (hy : y1 ≠ y2) : P + Q = 0 := by
  have o1 := P.on
  have o2 := Q.on
  rw [h1] at o1
  rw [h2] at o2
  have o1 : y1 * y1 = x * x * x + zm C.p C.a * x + zm C.p C.b := o1
  have o2 : y2 * y2 = x * x * x + zm C.p C.a * x + zm C.p C.b := o2
  have : (y1 - y2) * (y1 + y2) = 0 := by grind
  have s : y1 + y2 = 0 := (z_dom C.pr this).resolve_left (by grind)
  apply Cv.ext
  show padd _ P.v Q.v = none
  rw [h1, h2, padd_eq, if_pos ⟨rfl, s⟩]
def jdbl (C : Cv) (t : I3) : I3 := if t.b = 0 ∨ t.c = 0 then ⟨1, 1, 0⟩ else
  let s := 4 * t.a * t.b * t.b
  let m := 3 * t.a * t.a + C.a * t.c * t.c * t.c * t.c
  ⟨(m * m - 2 * s) % C.p, (m * (s - (m * m - 2 * s)) - 8 * t.b * t.b * t.b * t.b) % C.p, 2 * t.b * t.c % C.p⟩
def jsum (C : Cv) (t u : I3) : I3 := if t.c = 0 then u else if u.c = 0 then t else
  let u1 := t.a * u.c * u.c
  let u2 := u.a * t.c * t.c
  let s1 := t.b * u.c * u.c * u.c
  let s2 := u.b * t.c * t.c * t.c
  if (u1 - u2) % (C.p : Int) = 0 then if (s1 - s2) % (C.p : Int) = 0 then jdbl C t else ⟨1, 1, 0⟩
  else
    let h := u2 - u1
    let r := s2 - s1
    let x := r * r - h * h * h - 2 * u1 * h * h
    ⟨x % C.p, (r * (u1 * h * h - x) - s1 * h * h * h) % C.p, h * t.c * u.c % C.p⟩
theorem rs_ne {p : Nat} (h : 5 ≤ p) : Rs p 1 ∧ Rs p 0 := ⟨⟨by decide, by omega⟩, ⟨by decide, by omega⟩⟩
theorem jdbl_rs [hC : CvP C] (t : I3) : Rs3 C.p (jdbl C t) := by
  unfold jdbl
  split
  · exact ⟨(rs_ne C.ge).1, (rs_ne C.ge).1, (rs_ne C.ge).2⟩
  · exact ⟨rs_mod _, rs_mod _, rs_mod _⟩
theorem jsum_rs [hC : CvP C] {t u : I3} (ht : Rs3 C.p t) (hu : Rs3 C.p u) : Rs3 C.p (jsum C t u) := by
  unfold jsum
  split
  · exact hu
  · split
    · exact ht
    · dsimp only
      split
      · split
        · exact jdbl_rs t
        · exact ⟨(rs_ne C.ge).1, (rs_ne C.ge).1, (rs_ne C.ge).2⟩
      · exact ⟨rs_mod _, rs_mod _, rs_mod _⟩
theorem jdbl_ok {t : I3} {P : C.Pt} (ht : Rs3 C.p t) (h : Jc C t P) : Jc C (jdbl C t) (P + P) := by
  unfold jdbl
  rcases h with ⟨h1, h2⟩ | ⟨h1, x, y, hv, hx, hy⟩
  · rw [if_pos (.inr h1), h2, g_add_zero]; exact Jc.zero rfl
  · have hz := zm_ne ht.c h1
    by_cases hb : t.b = 0
    · rw [if_pos (.inl hb)]
      have y0 : y = 0 := by
        rw [hb] at hy
        have hy : (0 : Zp C.p) = _ := hy
        have e : (zm C.p t.c * zm C.p t.c * zm C.p t.c) * y = 0 := by grind
        exact z_cancel C.pr (z_mul_ne C.pr (z_mul_ne C.pr hz hz) hz) e
      subst y0
      rw [dbl_0 hv]; exact Jc.zero rfl
    · rw [if_neg (fun z => z.elim hb h1)]
      have yb := zm_ne ht.b hb
      have y0 : y ≠ 0 := by
        intro e
        apply yb
        rw [hy, e]; grind
      obtain ⟨l, e1, e2⟩ := dbl_v hv y0
      have Z : zm C.p (2 * t.b * t.c % C.p) = 2 * zm C.p t.b * zm C.p t.c := by rw [zm_mod, zm_mul, zm_mul]; rfl
      have M : zm C.p (3 * t.a * t.a + C.a * t.c * t.c * t.c * t.c) = 3 * zm C.p t.a * zm C.p t.a + zm C.p C.a * zm C.p t.c * zm C.p t.c * zm C.p t.c * zm C.p t.c := by
        simp only [zm_add, zm_mul]; rfl
      have S : zm C.p (4 * t.a * t.b * t.b) = 4 * zm C.p t.a * zm C.p t.b * zm C.p t.b := by
        simp only [zm_mul]; rfl
      dsimp only
      generalize 3 * t.a * t.a + C.a * t.c * t.c * t.c * t.c = m at *
      generalize 4 * t.a * t.b * t.b = s at *
      have X := jd_x (X3 := zm C.p (m * m - 2 * s)) e1 hx hy S M (by simp only [zm_sub, zm_mul]; rfl) Z
      have Y := jd_y (Y3 := zm C.p (m * (s - (m * m - 2 * s)) - 8 * t.b * t.b * t.b * t.b)) e1 hx hy S M X Z (by rw [zm_sub, zm_mul, zm_sub]; simp only [zm_mul]; rfl)
      refine .inr ⟨?_, _, _, e2, ?_, ?_⟩
      · intro e
        have e : 2 * t.b * t.c % (C.p : Int) = 0 := e
        have := zm_zero.mpr e
        rw [zm_mul, zm_mul] at this
        exact z_mul_ne C.pr (z_mul_ne C.pr C.two yb) hz this
      · dsimp only
        rw [← X, zm_mod]
      · dsimp only
        rw [← Y, zm_mod]
theorem jsum_ok {t u : I3} {P Q : C.Pt} (ht : Rs3 C.p t) (hu : Rs3 C.p u) (h : Jc C t P) (k : Jc C u Q) : Jc C (jsum C t u) (P + Q) := by
  unfold jsum
  rcases h with ⟨h1, h2⟩ | ⟨h1, x1, y1, hv, hx, hy⟩
  · rw [if_pos h1, h2, g_zero_add]; exact k
  rw [if_neg h1]
  rcases k with ⟨k1, k2⟩ | ⟨k1, x2, y2, kv, kx, ky⟩
  · rw [if_pos k1, k2, g_add_zero]
    exact .inr ⟨h1, x1, y1, hv, hx, hy⟩
  rw [if_neg k1]
  have hz := zm_ne ht.c h1
  have kz := zm_ne hu.c k1
  have U1 : zm C.p (t.a * u.c * u.c) = x1 * (zm C.p t.c * zm C.p u.c * (zm C.p t.c * zm C.p u.c)) := by rw [zm_mul, zm_mul, hx, z_u]
  have U2 : zm C.p (u.a * t.c * t.c) = x2 * (zm C.p t.c * zm C.p u.c * (zm C.p t.c * zm C.p u.c)) := by rw [zm_mul, zm_mul, kx, z_u']
  have S1 : zm C.p (t.b * u.c * u.c * u.c) = y1 * (zm C.p t.c * zm C.p u.c * (zm C.p t.c * zm C.p u.c) * (zm C.p t.c * zm C.p u.c)) := by rw [zm_mul, zm_mul, zm_mul, hy, z_s]
  have S2 : zm C.p (u.b * t.c * t.c * t.c) = y2 * (zm C.p t.c * zm C.p u.c * (zm C.p t.c * zm C.p u.c) * (zm C.p t.c * zm C.p u.c)) := by rw [zm_mul, zm_mul, zm_mul, ky, z_s']
  have W := z_mul_ne C.pr hz kz
  have W2 := z_mul_ne C.pr W W
  have W3 := z_mul_ne C.pr W2 W
  generalize hw : zm C.p t.c * zm C.p u.c = w at *
  dsimp only
  generalize t.a * u.c * u.c = u1 at *
  generalize u.a * t.c * t.c = u2 at *
  generalize t.b * u.c * u.c * u.c = s1 at *
  generalize u.b * t.c * t.c * t.c = s2 at *
  have D1 : (u1 - u2) % (C.p : Int) = 0 ↔ x1 = x2 := by
    rw [← zm_zero, zm_sub, U1, U2, z_d]
    exact ⟨fun e => z_e (z_cancel C.pr W2 e), fun e => by rw [e, z_0, z_c]; exact z_d0 _⟩
  have D2 : (s1 - s2) % (C.p : Int) = 0 ↔ y1 = y2 := by
    rw [← zm_zero, zm_sub, S1, S2, z_d]
    exact ⟨fun e => z_e (z_cancel C.pr W3 e), fun e => by rw [e, z_0, z_c]; exact z_d0 _⟩
  by_cases hxx : x1 = x2
  · rw [if_pos (D1.mpr hxx)]
    by_cases hyy : y1 = y2
    · rw [if_pos (D2.mpr hyy)]
      have : Q = P := Cv.ext (by rw [hv, kv, hxx, hyy])
      rw [this]
      exact jdbl_ok ht (.inr ⟨h1, x1, y1, hv, hx, hy⟩)
    · rw [if_neg (mt D2.mp hyy)]
      subst hxx
      rw [same_x hv kv hyy]
      exact Jc.zero rfl
  · rw [if_neg (mt D1.mp hxx)]
    obtain ⟨l, e1, e2⟩ := add_v hv kv hxx
    have H : zm C.p (u2 - u1) = zm C.p u2 - zm C.p u1 := zm_sub _ _
    have R : zm C.p (s2 - s1) = zm C.p s2 - zm C.p s1 := zm_sub _ _
    have hne : zm C.p (u2 - u1) ≠ 0 := by
      rw [H, U1, U2, z_d]
      intro e
      exact hxx (z_e (z_cancel C.pr W2 e)).symm
    generalize u2 - u1 = h at *
    generalize s2 - s1 = r at *
    have X := js_x (X3 := zm C.p (r * r - h * h * h - 2 * u1 * h * h)) (Z3 := zm C.p h * w) e1 U1 U2 S1 S2 H R (by simp only [zm_sub, zm_mul]; rfl) rfl
    have Y := js_y (Y3 := zm C.p (r * (u1 * h * h - (r * r - h * h * h - 2 * u1 * h * h)) - s1 * h * h * h)) (Z3 := zm C.p h * w) e1 U1 U2 S1 S2 H R X rfl (by rw [zm_sub, zm_mul, zm_sub (u1 * h * h)]; simp only [zm_mul])
    have Z : zm C.p (h * t.c * u.c % C.p) = zm C.p h * w := by rw [zm_mod, zm_mul, zm_mul, ← hw, z_assoc]
    refine .inr ⟨?_, _, _, e2, ?_, ?_⟩
    · intro e
      have e : h * t.c * u.c % (C.p : Int) = 0 := e
      have := zm_zero.mpr e
      rw [← zm_mod, Z] at this
      exact z_mul_ne C.pr hne W this
    · dsimp only
      rw [Z, ← X, zm_mod]
    · dsimp only
      rw [Z, ← Y, zm_mod]
end

section
variable {C : Cv} [hC : CvP C]
theorem rz {p : Nat} {x y : Int} (h : zm p x = zm p y) : x % (p : Int) = y % p := zm_eq.mp h
theorem z_m1 (a b c : Zp C.p) : a * b * (c * c) = a * b * c * c := by grind
theorem z_m2 (a b : Zp C.p) : a * (b * b) * (b * b) = a * b * b * b * b := by grind
theorem z_m3 (a b c : Zp C.p) : a * (b * b) * c - a * (b * b) * c = 0 := by grind
theorem from_ok {t : I3} {P : C.Pt} (ht : Rs3 C.p t) (h : Jc C t P) : m_from_jacobian C.o t = .ok (lf P) := by
  obtain ⟨X, Y, Z⟩ := t
  have := ht.a.bd
  have := ht.b.bd
  unfold m_from_jacobian
  rcases h with ⟨h1, h2⟩ | ⟨h1, x, y, hv, hx, hy⟩
  · subst h2
    have h1 : Z = 0 := h1
    simp only [Res.bind_ok, decide_eq_true h1, cond_true]
    rfl
  · have h1 : Z ≠ 0 := h1
    have hz := zm_ne ht.c h1
    obtain ⟨i, e, ri, q⟩ := pinv_f hC.pr Z hz
    have := ri.bd
    simp (decide := true) only [Res.bind_ok, decide_eq_false h1, cond_false, e, need_bind, need_bd, need_p]
    have iv := z_mul_inv hz
    have hx : zm C.p X = x * (zm C.p Z * zm C.p Z) := hx
    have hy : zm C.p Y = y * (zm C.p Z * zm C.p Z * zm C.p Z) := hy
    show Res.ok (some (T2.mk _ _)) = Res.ok (lfv P.v)
    rw [hv]
    show Res.ok (some (T2.mk _ _)) = Res.ok (some (T2.mk (zv x) (zv y)))
    congr 3
    · rw [← zv_zm]
      congr 1
      rw [zm_mul, zm_mod, zm_mul, q, hx]
      generalize (zm C.p Z)⁻¹ = v at *
      generalize zm C.p Z = z at *
      clear hx hy q hz
      grind
    · rw [← zv_zm]
      congr 1
      rw [zm_mul, zm_mul, zm_mod, zm_mul, q, hy]
      generalize (zm C.p Z)⁻¹ = v at *
      generalize zm C.p Z = z at *
      clear hx hy q hz
      grind
theorem p4 (x : Int) : x ^ 4 = x * x * x * x := by rw [Int.pow_succ, Int.pow_succ, Int.pow_succ, Int.pow_succ, Int.pow_zero, Int.one_mul]
theorem dblj_ok {t : I3} (ht : Rs3 C.p t) : m_double_jacobian C.o t = .ok (jdbl C t) := by
  obtain ⟨X, Y, Z⟩ := t
  have := ht.a.bd
  have := ht.b.bd
  have := ht.c.bd
  have := (Cv.A C).bd
  unfold m_double_jacobian jdbl
  by_cases hb : Y = 0
  · simp only [Res.bind_ok, decide_eq_true hb, cond_true]
    rw [if_pos (.inl hb)]; rfl
  by_cases hc : Z = 0
  · simp only [Res.bind_ok, decide_eq_false hb, decide_eq_true hc, cond_true, cond_false]
    rw [if_pos (.inr hc)]; rfl
  rw [if_neg (fun z => z.elim hb hc)]
  simp (decide := true) only [Res.bind_ok, decide_eq_false hb, decide_eq_false hc, cond_false, need_bind, need_bd, need_p, need_pw4, tn4]
  clear hb hc
  have a1 : (3 * X * X + C.a * Z ^ 4) = 3 * X * X + C.a * Z * Z * Z * Z := by rw [p4]; ac_rfl
  rw [a1]
  congr 2
  · refine rz ?_
    simp only [zm_sub, zm_mul, zm_mod, ← z_assoc]
  · refine rz ?_
    simp only [zm_sub, zm_mul, zm_mod, ← z_assoc]
theorem ldbl_ok {t : I3} (ht : Rs3 C.p t) : m_u_law_double (C.p : Int) C.a t = .ok (jdbl C t) := by
  obtain ⟨X, Y, Z⟩ := t
  have := ht.a.bd
  have := ht.b.bd
  have := ht.c.bd
  have := (Cv.A C).bd
  unfold m_u_law_double jdbl
  by_cases hb : Y = 0
  · simp only [Res.bind_ok, decide_eq_true hb, cond_true]
    rw [if_pos (.inl hb)]
  by_cases hc : Z = 0
  · simp only [Res.bind_ok, decide_eq_false hb, decide_eq_true hc, cond_true, cond_false]
    rw [if_pos (.inr hc)]
  rw [if_neg (fun z => z.elim hb hc)]
  simp (decide := true) only [Res.bind_ok, decide_eq_false hb, decide_eq_false hc, cond_false, need_bind, need_bd, need_p]
theorem scaled_ok {t : I3} (ht : Rs3 C.p t) {z : Int} (hz : Rs C.p z) : m_u_scaled t z (C.p : Int) = .ok (T2.mk (t.a * z * z % C.p) (t.b * z * z * z % C.p)) := by
  obtain ⟨X, Y, Z⟩ := t
  have := ht.a.bd
  have := ht.b.bd
  have := hz.bd
  unfold m_u_scaled
  simp (decide := true) only [Res.bind_ok, need_bind, need_bd, need_p]
  congr 2
  · refine rz ?_
    simp only [zm_mul, zm_mod, z_assoc]
  · refine rz ?_
    simp only [zm_mul, zm_mod, z_assoc]
theorem rs_eq {x y : Int} : x % (C.p : Int) = y % C.p ↔ (x - y) % (C.p : Int) = 0 := Int.emod_eq_emod_iff_emod_sub_eq_zero
theorem z_n1 (h r u s : Zp C.p) : r * r - h * (h * h) - 2 * (u * (h * h)) = r * r - h * h * h - 2 * u * h * h := by grind
theorem z_n2 (h r u s x : Zp C.p) : r * (u * (h * h) - x) - s * (h * (h * h)) = r * (u * h * h - x) - s * h * h * h := by grind
theorem addj_ok {t u : I3} (ht : Rs3 C.p t) (hu : Rs3 C.p u) : m_add_jacobian C.o t u = .ok (jsum C t u) := by
  unfold m_add_jacobian jsum
  by_cases hc : t.c = 0
  · simp only [Res.bind_ok, decide_eq_true hc, cond_true]
    rw [if_pos hc]
  by_cases hd : u.c = 0
  · simp only [Res.bind_ok, decide_eq_false hc, decide_eq_true hd, cond_true, cond_false]
    rw [if_neg hc, if_pos hd]
  rw [if_neg hc, if_neg hd]
  simp (decide := true) only [Res.bind_ok, decide_eq_false hc, decide_eq_false hd, cond_false, scaled_ok ht hu.c, scaled_ok hu ht.c]
  by_cases h1 : (t.a * u.c * u.c - u.a * t.c * t.c) % (C.p : Int) = 0
  · rw [decide_eq_true (rs_eq.mpr h1), cond_true, if_pos h1]
    by_cases h2 : (t.b * u.c * u.c * u.c - u.b * t.c * t.c * t.c) % (C.p : Int) = 0
    · simp only [decide_eq_true (rs_eq.mpr h2), cond_true, dblj_ok ht, Res.bind_ok]
      rw [if_pos h2]
    · simp only [decide_eq_false (mt rs_eq.mp h2), cond_false, Res.bind_ok]
      rw [if_neg h2]; rfl
  · have b1 := ht.c.bd
    have b2 := hu.c.bd
    rw [decide_eq_false (mt rs_eq.mp h1), cond_false, if_neg h1]
    simp (decide := true) only [Res.bind_ok, need_bind, need_bd, need_p]
    congr 2
    · refine rz ?_
      simp only [zm_sub, zm_mul, zm_mod]
      exact z_n1 _ _ _ 0
    · refine rz ?_
      simp only [zm_sub, zm_mul, zm_mod]
      show _ = _
      rw [show zm C.p 2 = (2 : Zp C.p) from rfl, z_n1 _ _ _ 0, z_n2]
    · refine rz ?_
      simp only [zm_sub, zm_mul, zm_mod]
set_option synthInstance.maxHeartbeats 400000 in
set_option synthInstance.maxSize 4000 in
theorem lsum_ok {t u : I3} (ht : Rs3 C.p t) (hu : Rs3 C.p u) : m_u_law_sum (C.p : Int) C.a t u = .ok (jsum C t u) := by
  have b1 := ht.a.bd
  have b2 := ht.b.bd
  have b3 := ht.c.bd
  have b4 := hu.a.bd
  have b5 := hu.b.bd
  have b6 := hu.c.bd
  have b7 := (Cv.A C).bd
  have hd := ldbl_ok ht
  obtain ⟨X, Y, Z⟩ := t
  obtain ⟨X', Y', Z'⟩ := u
  unfold m_u_law_sum jsum
  by_cases hc : Z = 0
  · simp only [Res.bind_ok, decide_eq_true hc, cond_true]
    rw [if_pos hc]
  by_cases hd : Z' = 0
  · simp only [Res.bind_ok, decide_eq_false hc, decide_eq_true hd, cond_true, cond_false]
    rw [if_neg hc, if_pos hd]
  rw [if_neg hc, if_neg hd]
  dsimp only at *
  by_cases h1 : (X * Z' * Z' - X' * Z * Z) % (C.p : Int) = 0
  · rw [if_pos h1]
    by_cases h2 : (Y * Z' * Z' * Z' - Y' * Z * Z * Z) % (C.p : Int) = 0
    · rw [if_pos h2]
      simp (decide := true) only [Res.bind_ok, decide_eq_false hc, decide_eq_false hd, cond_false, need_bind, need_bd, need_p, decide_eq_true h1, decide_eq_true h2, cond_true]
      assumption
    · rw [if_neg h2]
      simp (decide := true) only [Res.bind_ok, decide_eq_false hc, decide_eq_false hd, cond_false, need_bind, need_bd, need_p, decide_eq_true h1, decide_eq_false h2, cond_true]
  · rw [if_neg h1]
    simp (decide := true) only [Res.bind_ok, decide_eq_false hc, decide_eq_false hd, cond_false, need_bind, need_bd, need_p, decide_eq_false h1]
theorem jc_0 {t : I3} {P : C.Pt} (h : Jc C t P) : t.c = 0 ↔ P = 0 := by
  rcases h with ⟨h1, h2⟩ | ⟨h1, x, y, hv, hx, hy⟩
  · exact ⟨fun _ => h2, fun _ => h1⟩
  · exact ⟨fun z => absurd z h1, fun z => absurd z (some_ne0 hv)⟩
theorem same_ok {t u : I3} {P Q : C.Pt} (ht : Rs3 C.p t) (hu : Rs3 C.p u) (h : Jc C t P) (k : Jc C u Q) : m_same_point C.o t u = .ok (decide (P = Q)) := by
  unfold m_same_point
  have i1 := jc_0 h
  have i2 := jc_0 k
  by_cases hc : t.c = 0
  · simp only [Res.bind_ok, decide_eq_true hc, cond_true]
    congr 1
    refine decide_eq_decide.mpr ?_
    rw [i1.mp hc, hc]
    constructor
    · intro e; rw [i2.mp e.symm]
    · intro e; rw [i2.mpr e.symm]
  by_cases hd : u.c = 0
  · simp only [Res.bind_ok, decide_eq_false hc, decide_eq_true hd, cond_true, cond_false]
    congr 1
    refine decide_eq_decide.mpr ?_
    rw [i2.mp hd, hd, i1]
  have b1 := ht.c.bd
  have b2 := hu.c.bd
  simp (decide := true) only [Res.bind_ok, decide_eq_false hc, decide_eq_false hd, cond_false, scaled_ok ht hu.c, scaled_ok hu ht.c, need_bind]
  rw [Res.need_pos ⟨okq_t2 _, okq_t2 _⟩]
  congr 1
  have iff1 : (T2.mk (t.a * u.c * u.c % (C.p : Int)) (t.b * u.c * u.c * u.c % (C.p : Int)) = T2.mk (u.a * t.c * t.c % (C.p : Int)) (u.b * t.c * t.c * t.c % (C.p : Int))) ↔ P = Q := by
    rcases h with ⟨h1, h2⟩ | ⟨h1, x1, y1, hv, hx, hy⟩
    · exact absurd h1 hc
    rcases k with ⟨k1, k2⟩ | ⟨k1, x2, y2, kv, kx, ky⟩
    · exact absurd k1 hd
    have W := z_mul_ne C.pr (zm_ne ht.c h1) (zm_ne hu.c k1)
    have W2 := z_mul_ne C.pr W W
    have W3 := z_mul_ne C.pr W2 W
    constructor
    · intro e
      have ex : t.a * u.c * u.c % (C.p : Int) = u.a * t.c * t.c % (C.p : Int) := congrArg T2.a e
      have ey : t.b * u.c * u.c * u.c % (C.p : Int) = u.b * t.c * t.c * t.c % (C.p : Int) := congrArg T2.b e
      have ex := zm_eq.mpr ex
      have ey := zm_eq.mpr ey
      rw [zm_mul, zm_mul, zm_mul, zm_mul, hx, kx, z_u, z_u'] at ex
      rw [zm_mul, zm_mul, zm_mul, zm_mul, zm_mul, zm_mul, hy, ky, z_s, z_s'] at ey
      generalize zm C.p t.c * zm C.p u.c = w at *
      have q1 : w * w * (x1 - x2) = 0 := by rw [← z_d, ex, z_0]
      have q2 : w * w * w * (y1 - y2) = 0 := by rw [← z_d, ey, z_0]
      apply Cv.ext
      rw [hv, kv, z_e (z_cancel C.pr W2 q1), z_e (z_cancel C.pr W3 q2)]
    · intro e
      subst e
      rw [hv] at kv
      have kv := Option.some.inj kv
      have e1 : x1 = x2 := congrArg Prod.fst kv
      have e2 : y1 = y2 := congrArg Prod.snd kv
      subst e1 e2
      congr 1
      · refine rz ?_
        rw [zm_mul, zm_mul, zm_mul, zm_mul, hx, kx, z_u, z_u']
      · refine rz ?_
        rw [zm_mul, zm_mul, zm_mul, zm_mul, zm_mul, zm_mul, hy, ky, z_s, z_s']
  by_cases hPQ : P = Q
  · rw [decide_eq_true hPQ]; exact (pyEq_t2 _ _).mpr (iff1.mpr hPQ)
  · rw [decide_eq_false hPQ]
    cases e : pyEq (toD (T2.mk (t.a * u.c * u.c % (C.p : Int)) (t.b * u.c * u.c * u.c % (C.p : Int)))) (toD (T2.mk (u.a * t.c * t.c % (C.p : Int)) (u.b * t.c * t.c * t.c % (C.p : Int)))) with
    | false => rfl
    | true => exact absurd (iff1.mp ((pyEq_t2 _ _).mp e)) hPQ
theorem toj_ok (P : C.Pt) : ∃ t, m_to_jacobian (lf P) = .ok t ∧ Rs3 C.p t ∧ Jc C t P ∧ (lf P = none → t = ⟨1, 1, 0⟩) ∧ ∀ x y, lf P = some (T2.mk x y) → t = ⟨x, y, 1⟩ := by
  have r1 := rs_ne C.ge
  cases e : lf P with
  | none =>
    refine ⟨⟨1, 1, 0⟩, ?_, ⟨r1.1, r1.1, r1.2⟩, .inl ⟨rfl, lf_none e⟩, fun _ => rfl, fun x y h => by cases h⟩
    rfl
  | some q =>
    obtain ⟨x, y⟩ := q
    obtain ⟨hx, hy, ho, hv⟩ := lf_some e
    refine ⟨⟨x, y, 1⟩, ?_, ⟨hx, hy, r1.1⟩, .inr ⟨(show (1 : Int) ≠ 0 by decide), _, _, hv, ?_, ?_⟩, fun h => (by cases h), fun x' y' h => ?_⟩
    · rfl
    · show _ = _ * ((1 : Zp C.p) * 1); grind
    · show _ = _ * ((1 : Zp C.p) * 1 * 1); grind
    · cases h; rfl
theorem ltri_ok (P : C.Pt) {s : Int} (hs : Rs C.p s) (h0 : s ≠ 0) (cell : Int) : ∃ t, m_u_law_triple (lf P) s (C.p : Int) cell = .ok t ∧ Rs3 C.p t ∧ Jc C t P := by
  have hp := hC.pr.pos
  obtain ⟨x1, e1, X1⟩ := residue_ok hp cell
  obtain ⟨x2, e2, X2⟩ := residue_ok hp (cell / 7)
  have := hs.bd
  unfold m_u_law_triple
  cases e : lf P with
  | none =>
    simp only [Res.bind_ok, e1, e2, toD_none2]
    exact ⟨⟨x1, x2, 0⟩, rfl, ⟨X1, X2, (rs_ne C.ge).2⟩, .inl ⟨rfl, lf_none e⟩⟩
  | some q =>
    obtain ⟨x, y⟩ := q
    obtain ⟨hx, hy, ho, hv⟩ := lf_some e
    have := hx.bd
    have := hy.bd
    have n1 : (toD (some (T2.mk x y))).isNon = false := rfl
    have og : optGet (some (T2.mk x y)) = .ok (T2.mk x y) := rfl
    simp (decide := true) only [Res.bind_ok, n1, cond_false, og, need_bind, need_bd, need_p]
    refine ⟨_, rfl, ⟨rs_mod _, rs_mod _, hs⟩, .inr ⟨h0, _, _, hv, ?_, ?_⟩⟩
    · dsimp only; rw [zm_mod, zm_mul, zm_mul, z_assoc]
    · dsimp only; rw [zm_mod, zm_mul, zm_mul, zm_mul]
      simp only [z_assoc]
theorem istri_ok (t : I3) : m_u_law_is_triple (toD t) t = .ok true := by
  obtain ⟨x, y, z⟩ := t
  have e0 : toD (T3.mk x y z) = D.tup [D.int x, D.int y, D.int z] := rfl
  have e1 : (toD (D.tup [D.int x, D.int y, D.int z])).plain = true := rfl
  have e2 : isI "tuple" (toD (D.tup [D.int x, D.int y, D.int z])) = true := rfl
  have e3 : D.lenR (D.tup [D.int x, D.int y, D.int z]) = .ok 3 := rfl
  have e4 : D.asTu (D.tup [D.int x, D.int y, D.int z]) = .ok ⟨[D.int x, D.int y, D.int z]⟩ := rfl
  have n3 : (!decide ((3 : Int) = 3)) = false := by decide
  unfold m_u_law_is_triple
  have ok : (D.tup [D.int x, D.int y, D.int z]).okq = true ∧ (D.tup [D.int x, D.int y, D.int z]).okq = true := ⟨rfl, rfl⟩
  have eq : pyEq (D.tup [D.int x, D.int y, D.int z]) (D.tup [D.int x, D.int y, D.int z]) = true := pyEq_self rfl
  simp only [Res.bind_ok, e0, e1, e2, e3, e4, Res.need_pos e1, Bool.not_true, cond_false, decide_true, need_true]
  simp only [m_u_law_is_triple_l2, Res.bind_ok, isint_ok, Bool.not_true, cond_false, need_true]
  unfold m_u_law_is_triple_k3
  simp only [Res.bind_ok, e0, toD_D, Res.need_pos ok, eq, need_true]
theorem okq_t3 (t : I3) : (toD t).okq = true := by obtain ⟨x, y, z⟩ := t; rfl
theorem eq_t3 (t : I3) : pyEq (toD t) (toD t) = true := by obtain ⟨x, y, z⟩ := t; exact pyEq_self rfl
theorem idx5 (ps : List C.Pt) (h : ps.length = 5) {z : Int} (h0 : 0 ≤ z) (h1 : z < 5) : ∃ P : C.Pt, idx (ps.map lf) z = .ok (lf P) := by
  have : z.toNat < ps.length := by omega
  exact ⟨ps[z.toNat], idx_int h0 (by rw [List.getElem?_map, List.getElem?_eq_getElem this]; rfl)⟩
end
theorem law_true (ns : List Int) (hl : ns.length ≤ 63) (hb : ∀ i ∈ ns, Builtin.Int.intBits i ≤ 1048576) : m_law ns = .ok true := by
  clear hb
  obtain ⟨c0, d0⟩ := cell_ex ns (show 0 ≤ (0 : Int) by decide)
  obtain ⟨c6, d6⟩ := cell_ex ns (show 0 ≤ (6 : Int) by decide)
  obtain ⟨c7, d7⟩ := cell_ex ns (show 0 ≤ (7 + 0 : Int) by decide)
  obtain ⟨c8, d8⟩ := cell_ex ns (show 0 ≤ (7 + 1 : Int) by decide)
  obtain ⟨c9, d9⟩ := cell_ex ns (show 0 ≤ (9 : Int) by decide)
  obtain ⟨c10, d10⟩ := cell_ex ns (show 0 ≤ (10 : Int) by decide)
  obtain ⟨p, p1, h, h5⟩ := curve_prime_ok c0
  have hPb := h.pb
  obtain ⟨a, b, x1, y1, x2, y2, cp, hh⟩ := curve_ex h h5 ns (at_ := 1) (by decide)
  unfold m_law
  simp (decide := true) only [Res.bind_ok, d0, p1, cp]
  rcases hh with q | ⟨q, C, P, Q, hC, e1, e2, e3, ini, lp, lq⟩
  · simp only [q, Res.bind_ok, cond_true]
  · subst e1 e2 e3
    have hr : okRange (2 : Int) := ⟨by decide, by decide⟩
    have hp1 : (0 : Int) < (C.p : Int) - 1 := by have := C.ge; omega
    obtain ⟨s1, f1, S1⟩ := residue_ok hp1 c7
    obtain ⟨s2, f2, S2⟩ := residue_ok hp1 c8
    have r2 : pyRange 0 2 = [0, 1] := by decide +kernel
    simp (decide := true) only [q, Res.bind_ok, cond_false, ini, need_bind, need_p, d6, Res.need_pos hr, r2, need_true, and_true]
    have h0 : (none : P2) = lf (0 : C.Pt) := rfl
    rw [← lf_neg lp, ← lp, ← lq, h0]
    simp only [ladd_ok, Res.bind_ok]
    simp only [compL, Res.bind_ok, cond_true, d7, d8, f1, f2, Res.noexc]
    have z0 := Int.emod_nonneg (c6.natAbs : Int) (show (5 : Int) ≠ 0 by decide)
    have z1 := Int.emod_lt_of_pos (c6.natAbs : Int) (show (0 : Int) < 5 by decide)
    have w0 := Int.emod_nonneg ((c6.natAbs : Int) / 5) (show (5 : Int) ≠ 0 by decide)
    have w1 := Int.emod_lt_of_pos ((c6.natAbs : Int) / 5) (show (0 : Int) < 5 by decide)
    have hm : ([lf P, lf Q, lf (-P), lf (P + Q), lf (0 : C.Pt)] : List P2) = [P, Q, -P, P + Q, 0].map lf := rfl
    obtain ⟨A, hA⟩ := idx5 [P, Q, -P, P + Q, 0] rfl z0 z1
    obtain ⟨B, hB⟩ := idx5 [P, Q, -P, P + Q, 0] rfl w0 w1
    have i0 : idx [1 + s1, 1 + s2] (0 : Int) = .ok (1 + s1) := rfl
    have i1 : idx [1 + s1, 1 + s2] (1 : Int) = .ok (1 + s2) := rfl
    obtain ⟨t, t1, t2, t3⟩ := ltri_ok A (s := 1 + s1) ⟨by omega, by omega⟩ (by omega) c9
    obtain ⟨u, u1, u2, u3⟩ := ltri_ok B (s := 1 + s2) ⟨by omega, by omega⟩ (by omega) c10
    obtain ⟨v, v1, v2, v3, v4, v5⟩ := toj_ok A
    obtain ⟨v0, g1, g2, g3, g4, g5⟩ := toj_ok (0 : C.Pt)
    have g4 := g4 rfl
    subst g4
    rw [hm]
    have ok3 : ∀ X Y : I3, (toD X).okq = true ∧ (toD Y).okq = true := fun X Y => ⟨okq_t3 X, okq_t3 Y⟩
    have ok : ∀ X Y : P2, (toD X).okq = true ∧ (toD Y).okq = true := fun X Y => ⟨okq_p2 X, okq_p2 Y⟩
    have dr := jdbl_rs (C := C) t
    have sr := jsum_rs t2 u2
    have sr' := jsum_rs u2 t2
    have dj := jdbl_ok t2 t3
    have sj := jsum_ok t2 u2 t3 u3
    have sj' := jsum_ok u2 t2 u3 t3
    have bo : isI "bool" (toD (decide (A = B))) = true := rfl
    have bp : (toD (decide (A = B))).plain = true := rfl
    have tl : ∃ w, m_u_law_triple (lf A) 1 (C.p : Int) 0 = .ok w ∧ ((!pyEq (toD v) (toD w)) = true → lf A = none) := by
      obtain ⟨w, w1, w2, w3⟩ := ltri_ok A (s := 1) (rs_ne C.ge).1 (by decide) 0
      refine ⟨w, w1, ?_⟩
      cases e : lf A with
      | none => intro _; rfl
      | some q =>
        intro hne
        exfalso
        obtain ⟨x, y⟩ := q
        obtain ⟨hx, hy, ho, hv⟩ := lf_some e
        have := hx.bd
        have := hy.bd
        have hw : w = ⟨x, y, 1⟩ := by
          rw [e] at w1
          unfold m_u_law_triple at w1
          have n1 : (toD (some (T2.mk x y))).isNon = false := rfl
          have og : optGet (some (T2.mk x y)) = .ok (T2.mk x y) := rfl
          simp (decide := true) only [Res.bind_ok, n1, cond_false, og, need_bind, need_bd, need_p, Int.mul_one] at w1
          rw [Int.emod_eq_of_lt hx.1 hx.2, Int.emod_eq_of_lt hy.1 hy.2] at w1
          cases w1; rfl
        rw [hw, v5 x y e, eq_t3] at hne
        cases hne
    obtain ⟨w, w1, w2⟩ := tl
    simp only [Res.bind_ok, hA, hB, i0, i1, d9, d10, t1, u1, v1, w1, g1, Res.need_pos (ok3 _ _), Res.need_pos (okq_t3 _), Res.need_pos (ok _ _), eq_t3, Bool.not_true, cond_false, from_ok t2 t3, pyEq_lf, decide_true, dblj_ok t2, addj_ok t2 u2, addj_ok u2 t2, ldbl_ok t2, lsum_ok t2 u2, istri_ok, from_ok dr dj, from_ok sr sj, ladd_ok, same_ok t2 u2 t3 u3, same_ok t2 v2 t3 v3, same_ok sr sr' sj sj', g_add_comm B A, bo, Res.need_pos bp, cond_true, beq_self_eq_true]
    cases e : (!pyEq (toD v) (toD w)) with
    | false => simp only [cond_false, Res.bind_ok]
    | true =>
      have hA0 := lf_none (w2 e)
      subst hA0
      simp only [cond_true, cond_false, Res.bind_ok, isNon_lf0, Bool.not_true]
end Mi
open PySem PySem.W PySem.Calls PyProof.Rows
theorem PySem.Challenge.cw_curveseal_k12_jacobian_coordinates_holds : PySem.Challenge.rw_curveseal_k12_jacobian_coordinates.Holds := by
  w_on; o_law
  refine HandSHeadRun.head_any (r := OpenLaw.row PySem.Challenge.rw_curveseal_k12_jacobian_coordinates) (q := view (OpenLaw.row PySem.Challenge.rw_curveseal_k12_jacobian_coordinates).prog [40]) (H := Mi.hk) (ob := Mi.ob) (M := 20000) (loose := (["is_whole", "is_residue", "is_residue_pair", "bezout", "inverse", "to_jacobian", "from_jacobian", "double_jacobian", "add_jacobian", "_scaled", "same_point", "_law_cell", "_law_is_integer", "_law_is_prime", "_law_prime", "_law_curve_prime", "_law_power", "_law_inverse", "_law_residue", "_law_curve_and_points", "_law_add", "_law_on", "_law_singular", "_law_triple", "_law_double"] : List Str) ++ (["_law_sum", "_law_is_triple", "_wall", "CurveError", "OutOfRange", "NoInverse", "Refused", "Curve", "INFINITY"] : List Str)) (d := HandSHeadRun.topDef (OpenLaw.row PySem.Challenge.rw_curveseal_k12_jacobian_coordinates).prog 40) (kwd := []) Mi.ob_eq
    (by kernel_rfl) (fun s => by kernel_rfl) Mi.run_ (by kernel_rfl) (by kernel_rfl) (by kernel_rfl) (by rfl) (by first | assumption | decide +kernel) (by decide +kernel) ⟨rfl, rfl, rfl, rfl, rfl, by decide +kernel⟩ ?hw ?hc
  case hw => w_witness2
  case hc =>
    refine Mi.walk_end (l := PySem.Challenge.rw_curveseal_k12_jacobian_coordinates) (n := 63) (k := 4) (x := "script") (m := Mi.m_law) rfl (by decide) (by kernel_rfl) ⟨rfl, by decide, by decide⟩ ?F Mi.law_true
    intro w mg fa h Y G hmg0
    obtain ⟨K, KX, c⟩ := Y
    have hmg : mg ("law" : PySem.Str) = some (.ref fa) := by
      have e : (HandSHeadRun.topDef (OpenLaw.row PySem.Challenge.rw_curveseal_k12_jacobian_coordinates).prog 40).name = ("law" : PySem.Str) := by kernel_rfl
      rw [← e]
      exact hmg0
    have T := Mi.facts_of KX G c
    have ea := hmg.symm.trans T.g_law
    cases ea
    obtain ⟨fd, FL⟩ := T.d_law
    have b := L2.FunD.bindsA (ps := ["script"]) FL fun _ _ _ _ _ _ us hl => match us, hl with | [_], _ => rfl
    exact ⟨K, fd, KX, fun s u => b s [u] rfl, fun base _ _ => Mi.ok_law T FL⟩
